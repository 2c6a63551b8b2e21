"""Texts: deeds and books, written and read."""

from bothbooks.errors import NoText
from bothbooks.judges import is_row
from bothbooks.people import is_house
from bothbooks.runs import is_deed
from bothbooks.turns import is_number_text, read_parts, turn_text


def is_word(text):
    # Only what is one word, without blanks and line ends, falls apart to itself alone.
    return text.split() == [text]


def words_of(text):
    if not isinstance(text, str):
        raise NoText(0)
    words = text.split(" ")
    if not all([is_word(word) for word in words]):
        raise NoText(0)
    return tuple(words)


def deed_text(deed):
    return " ".join(["-" if part is None else str(part) for part in deed])


def read_deed(text):
    deed = words_of(text)
    if not is_deed(deed):
        raise NoText(0)
    if deed[0] in ("carry", "lose", "double"):
        return (deed[0], read_number(deed[1]))
    if deed[0] == "leave" and deed[2] == "-":
        return (deed[0], deed[1], None)
    return deed


def read_number(word):
    if not is_number_text(word):
        raise NoText(0)
    return int(word)


def book_text(house, rows):
    lines = [turn_text(row[:3] + row[3]) for row in rows]
    return "\n".join([f"book {house}"] + lines)


# What is told may be anything: whether it is a row, the caller asks.
def read_row(line):
    parts = read_parts(line)
    return parts[:3] + (parts[3:],)


def read_head(line):
    words = line.split(" ")
    if len(words) != 2 or words[0] != "book" or not is_house(words[1]):
        raise NoText(0)
    return words[1]


def read_book_text(text):
    if not isinstance(text, str):
        raise NoText(0)
    lines = text.split("\n")
    house = read_head(lines[0])
    rows = []
    for number in range(1, len(lines)):
        row = read_row(lines[number])
        if not is_row(house, row) or (rows != [] and row[:2] <= rows[-1][:2]):
            raise NoText(number)
        rows.append(row)
    return (house, rows)
