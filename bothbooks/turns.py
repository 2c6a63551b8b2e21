"""Turns: how a half was turned, as a letter tells it and a book's line writes it.

A turn is ("wish", first, second, wish) or ("answer", first, second, number, word, at).
What an answer may be turned to is told by steps, tuples (word, wish): the answer's
word, and the last wish that was answered till then.
"""

from bothbooks.halves import asks, is_answer, is_whole
from bothbooks.people import house_of, is_made_of, is_person

FIGURES = "0123456789"
MOST_FIGURES = 20
# Where in a turn the person stands who turned the half, and where the other one.
TURNER = {"wish": 1, "answer": 2}
TOLD = {"wish": 2, "answer": 1}
# The step of an answer that was never turned.
FIRST_STEP = ("none", 0)


def is_wish_turn(thing):
    return thing[0] == "wish" and len(thing) == 4 and is_whole(thing[3]) and thing[3] > 0


def is_answer_turn(thing):
    return thing[0] == "answer" and is_answer(thing[3:]) and thing[3] > 0


def is_turn(thing):
    if not isinstance(thing, tuple) or len(thing) < 4:
        return False
    if not is_person(thing[1]) or not is_person(thing[2]) or thing[1] == thing[2]:
        return False
    return is_wish_turn(thing) or is_answer_turn(thing)


def is_between_houses(turn):
    return house_of(turn[1]) != house_of(turn[2])


def house_of_turner(turn):
    return house_of(turn[TURNER[turn[0]]])


def house_of_told(turn):
    return house_of(turn[TOLD[turn[0]]])


def is_number_text(text):
    return is_made_of(text, FIGURES, MOST_FIGURES) and (text == "0" or text[0] != "0")


def turn_text(turn):
    return " ".join([str(part) for part in turn])


# No person and no word of an answer is written in figures alone, so each
# word tells by itself whether it is a number.
def read_word(word):
    return int(word) if is_number_text(word) else word


# What is told may be anything: whether it is a turn, or a letter, the caller asks.
def read_parts(text):
    return tuple([read_word(word) for word in text.split(" ")])


# The wishes at which the next answer may be. Whatever may follow an answer at some wish
# may follow one at a lesser wish: so the least one is enough, and those that are marked.
def next_wishes(step, most, marked):
    # A wish that was answered is answered anew behind a bar alone.
    least = step[1] if step[0] in ("none", "open") else step[1] + 1
    least = least if asks(least) else least + 1
    return [wish for wish in sorted(set([least] + marked)) if least <= wish <= most]


# The steps, but leaving, that may follow.
def next_steps(step, most, marked):
    if step[0] == "bars":
        return [("open", step[1])]
    steps = [("bars", step[1])]
    if step[0] == "lets":
        steps.append(("refuses", step[1]))
    for wish in next_wishes(step, most, marked):
        steps.extend([("lets", wish), ("refuses", wish)])
    return steps


# ways: for each step the steps that lead to it, itself the last one.
def next_ways(ways, most, marked):
    longer = {}
    for step in ways:
        for following in next_steps(step, most, marked):
            longer[following] = ways[step] + [following]
    return longer


def is_step_of(step, answer):
    return step[0] == answer[1] and answer[2] in (0, step[1])


def fitting_ways(ways, answer):
    fitting = {}
    for step in ways:
        if is_step_of(step, answer):
            fitting[step] = ways[step]
    return fitting


# A list of so many steps by which the answer is turned through the marks, or None where there
# is none. most: the greatest wish that is known. marks: for some numbers the answer with that
# number; those without a step are not looked at.
def find_steps(many, most, marks):
    marked = [answer[2] for answer in marks.values() if answer[1] in ("lets", "refuses")]
    ways = {FIRST_STEP: []}
    for number in range(1, many + 1):
        ways = next_ways(ways, most, marked)
        if number in marks:
            ways = fitting_ways(ways, marks[number])
    found = list(ways.values())
    return found[0] if found else None
