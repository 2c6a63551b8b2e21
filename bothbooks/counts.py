"""Counts: who follows, and waits for, a person of a book's house, and whom it follows and asks."""

from bothbooks.errors import NotHere
from bothbooks.halves import state
from bothbooks.people import house_of


def check_here(book, person):
    if house_of(person) != book.house():
        raise NotHere("the person is of another house")


# Both lists below are sorted because rows are in the order of pairs.
def firsts(book, person, states):
    check_here(book, person)
    return [row[0] for row in book.rows() if row[1] == person and state(row[2], row[3]) in states]


def seconds(book, person, states):
    check_here(book, person)
    return [row[1] for row in book.rows() if row[0] == person and state(row[2], row[3]) in states]


def followers(book, person):
    return firsts(book, person, ("follows",))


def following(book, person):
    return seconds(book, person, ("follows",))


def waiting(book, person):
    return firsts(book, person, ("asked",))


def in_vain(book, person):
    return seconds(book, person, ("asked", "refused"))


def counts(book, person):
    return (
        len(followers(book, person)),
        len(following(book, person)),
        len(waiting(book, person)),
        len(in_vain(book, person)),
    )
