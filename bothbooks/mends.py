"""Mending: the letters that two books lack to agree, and no more."""

from bothbooks.people import house_of
from bothbooks.sums import shared


# The half of a pair between two houses that a person of the book's house turns.
def own_half(book, first, second):
    if house_of(first) == book.house():
        return ("wish", first, second, book.wish(first, second))
    return ("answer", first, second) + book.answer(first, second)


def lacking(one, other):
    halves = [own_half(one, pair[0], pair[1]) for pair in shared(one, other)]
    return [half for half in halves if half[3] > other.held_number(half)]


def mending(one, other):
    return lacking(one, other) + lacking(other, one)
