"""Houses, people and pairs: which texts they are, and a person's two parts."""

from bothbooks.errors import NoPair, NoPerson

HOUSE_SIGNS = "abcdefghijklmnopqrstuvwxyz"
HOUSE_LENGTH = 6
NAME_SIGNS = "abcdefghijklmnopqrstuvwxyz0123456789-"
NAME_LENGTH = 8


def is_made_of(text, signs, most):
    return text != "" and len(text) <= most and all([sign in signs for sign in text])


def is_house(thing):
    return isinstance(thing, str) and is_made_of(thing, HOUSE_SIGNS, HOUSE_LENGTH)


def is_person(thing):
    if not isinstance(thing, str):
        return False
    # A second @ falls to the house's part, where it is no letter.
    parts = thing.partition("@")
    return is_made_of(parts[0], NAME_SIGNS, NAME_LENGTH) and is_house(parts[2])


def check_person(person):
    if not is_person(person):
        # The words don't hold what was handed in: a refusal bears no value here.
        raise NoPerson("a person is a text name@house")


def check_pair(first, second):
    check_person(first)
    check_person(second)
    if first == second:
        raise NoPair("a pair is two unlike persons")


# other: the person as which the one who leaves goes on, or None.
def check_leaving(person, other):
    check_person(person)
    if other is not None:
        check_pair(person, other)


def parts_of(person):
    check_person(person)
    return person.partition("@")


def house_of(person):
    return parts_of(person)[2]


def name_of(person):
    return parts_of(person)[0]
