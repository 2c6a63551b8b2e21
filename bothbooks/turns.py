"""Turns: how a half was turned, as a letter tells it and a book's line writes it.

A turn is ("wish", first, second, wish) or ("answer", first, second, number, word, at).
"""

from bothbooks.halves import is_answer, is_whole
from bothbooks.people import house_of, is_made_of, is_person

FIGURES = "0123456789"
MOST_FIGURES = 20
# Where in a turn the person stands who turned the half, and where the other one.
TURNER = {"wish": 1, "answer": 2}
TOLD = {"wish": 2, "answer": 1}


def is_wish_turn(thing):
    return thing[0] == "wish" and len(thing) == 4 and is_whole(thing[3]) and thing[3] > 0


def is_answer_turn(thing):
    return thing[0] == "answer" and is_answer(thing[3:]) and thing[3] > 0


def is_turn(thing):
    if not isinstance(thing, tuple) or len(thing) < 4:
        return False
    if not is_person(thing[1]) or not is_person(thing[2]) or thing[1] == thing[2]:
        return False
    return is_wish_turn(thing) or is_answer_turn(thing)


def is_between_houses(turn):
    return house_of(turn[1]) != house_of(turn[2])


def house_of_turner(turn):
    return house_of(turn[TURNER[turn[0]]])


def house_of_told(turn):
    return house_of(turn[TOLD[turn[0]]])


def is_number_text(text):
    return is_made_of(text, FIGURES, MOST_FIGURES) and (text == "0" or text[0] != "0")


def turn_text(turn):
    return " ".join([str(part) for part in turn])


# No person and no word of an answer is written in figures alone, so each
# word tells by itself whether it is a number.
def read_word(word):
    return int(word) if is_number_text(word) else word


# What is told may be anything: whether it is a turn, or a letter, the caller asks.
def read_parts(text):
    return tuple([read_word(word) for word in text.split(" ")])
