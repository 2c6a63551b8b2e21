"""Runs: the deeds of a town as tuples, done one by one."""

from bothbooks.errors import BookError, NoDeed
from bothbooks.town import Town

# How many parts each deed has behind its first word.
PARTS = {
    "ask": 2, "back": 2, "let": 2, "refuse": 2, "bar": 2, "unbar": 2, "leave": 2,
    "carry": 1, "lose": 1, "double": 1, "fall": 1, "up": 1, "slip": 1, "mend": 2,
}


# Whether the parts are people, houses and numbers of the town, the town tells.
def is_deed(thing):
    if not isinstance(thing, tuple) or thing == () or not isinstance(thing[0], str):
        return False
    return thing[0] in PARTS and len(thing) == 1 + PARTS[thing[0]]


def do_with_two(town, word, one, other):
    if word == "ask":
        return town.ask(one, other)
    if word == "back":
        return town.take_back(one, other)
    if word == "let":
        return town.let(one, other)
    if word == "refuse":
        return town.refuse(one, other)
    if word == "bar":
        return town.bar(one, other)
    if word == "unbar":
        return town.unbar(one, other)
    if word == "leave":
        return town.leave(one, other)
    return town.mend(one, other)


def do_with_one(town, word, part):
    if word == "carry":
        return town.carry(part)
    if word == "lose":
        return town.lose(part)
    if word == "double":
        return town.double(part)
    if word == "fall":
        return town.fall(part)
    if word == "up":
        return town.come_up(part)
    return town.slip(part)


# Tells what the town tells of the deed: of a mending a number, else None.
def do_deed(town, deed):
    if len(deed) == 2:
        return do_with_one(town, deed[0], deed[1])
    return do_with_two(town, deed[0], deed[1], deed[2])


def is_done(town, deed):
    try:
        do_deed(town, deed)
    except BookError:
        return False
    return True


def replay(houses, deeds):
    town = Town(houses)
    if not isinstance(deeds, list):
        raise NoDeed(0)
    for at, deed in enumerate(deeds):
        if not is_deed(deed) or not is_done(town, deed):
            raise NoDeed(at)
    return town
