"""Letters: a turn as one house tells it to another one, and its text."""

from bothbooks.errors import NoLetter, NoText
from bothbooks.turns import house_of_told, house_of_turner, is_between_houses, is_turn, read_parts, turn_text


def is_letter(thing):
    return is_turn(thing) and is_between_houses(thing)


def check_letter(letter):
    if not is_letter(letter):
        raise NoLetter("a letter tells a turn from one house to another one")


def from_house(letter):
    check_letter(letter)
    return house_of_turner(letter)


def to_house(letter):
    check_letter(letter)
    return house_of_told(letter)


def letter_text(letter):
    return turn_text(letter)


def read_letter(text):
    if not isinstance(text, str) or not is_letter(read_parts(text)):
        raise NoText(0)
    return read_parts(text)
