"""The two halves of a pair, wish and answer, and the state that they make."""

from bothbooks.people import is_person

# The wish and answer of a pair of which neither half was ever turned.
FIRST_HALVES = (0, (0, "none", 0))
# How often an answer was turned at least, where it bears this word.
LEAST_NUMBER = {"lets": 1, "refuses": 1, "bars": 1, "gone": 1, "moved": 1, "open": 2}


def is_whole(thing):
    # To Python a truth is an int, too; here it is no number.
    return isinstance(thing, int) and not isinstance(thing, bool)


def asks(wish):
    return wish % 2 == 1


def is_asking_wish(thing):
    # The sign is looked at because -1 is odd as well.
    return is_whole(thing) and thing > 0 and asks(thing)


def is_nought(thing):
    return is_whole(thing) and thing == 0


def number_fits(number, word):
    if word == "none":
        return number == 0
    return word in LEAST_NUMBER and number >= LEAST_NUMBER[word]


def at_fits(at, word):
    if word in ("lets", "refuses"):
        return is_asking_wish(at)
    if word == "moved":
        return is_person(at)
    return is_nought(at)


def is_answer(thing):
    if not isinstance(thing, tuple) or len(thing) != 3:
        return False
    # Kinds come ahead of words: what is no text may not be looked up.
    if not is_whole(thing[0]) or not isinstance(thing[1], str):
        return False
    return number_fits(thing[0], thing[1]) and at_fits(thing[2], thing[1])


def is_farewell(answer):
    return answer[1] in ("gone", "moved")


def state(wish, answer):
    word = answer[1]
    if is_farewell(answer):
        return "gone"
    if word == "bars":
        return "barred"
    if not asks(wish):
        return "nothing"
    if word == "lets" and answer[2] == wish:
        return "follows"
    if word == "refuses" and answer[2] == wish:
        return "refused"
    return "asked"
