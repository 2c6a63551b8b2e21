"""A house's book: its rows, the deeds of its people, the letters that it takes, and its lines."""

from bothbooks.errors import Gone, NoHouse, NoPair, NoText, NotHere, Wrong
from bothbooks.halves import FIRST_HALVES, asks, state
from bothbooks.letters import to_house
from bothbooks.people import check_leaving, check_pair, house_of, is_house, is_person
from bothbooks.turns import house_of_turner, is_between_houses, is_turn, read_parts, turn_text


# home: the house. kept: for each pair that has a row, its wish and answer. leavers:
# for each who has left, the person as which it goes on, or None. written: the lines.
class Book:
    def __init__(self, house):
        if not is_house(house):
            raise NoHouse("a house is a text of one to six small letters")
        self.home = house
        self.kept = {}
        self.leavers = {}
        self.written = []

    def house(self):
        return self.home

    def rows(self):
        return [pair + self.kept[pair] for pair in sorted(self.kept)]

    def wish(self, first, second):
        self.check_row(first, second)
        return self.held(first, second)[0]

    def answer(self, first, second):
        self.check_row(first, second)
        return self.held(first, second)[1]

    def state(self, first, second):
        self.check_row(first, second)
        return self.held_state(first, second)

    def left(self):
        return [(person, self.leavers[person]) for person in sorted(self.leavers)]

    def lines(self):
        return list(self.written)

    def ask(self, first, second):
        self.check_deed(first, second, first)
        self.check_state(first, second, ("nothing",))
        return self.turn_wish(first, second) + self.answer_for_leaver(first, second)

    def take_back(self, first, second):
        self.check_deed(first, second, first)
        # Not by the state: one who is barred, or whose other one is gone, may ask still.
        if not asks(self.held(first, second)[0]):
            raise Wrong(self.held_state(first, second))
        return self.turn_wish(first, second)

    def let(self, second, first):
        self.check_deed(first, second, second)
        self.check_state(first, second, ("asked",))
        return self.turn_answer(first, second, "lets", self.held(first, second)[0])

    def refuse(self, second, first):
        self.check_deed(first, second, second)
        self.check_state(first, second, ("asked", "follows"))
        return self.turn_answer(first, second, "refuses", self.held(first, second)[0])

    def bar(self, second, first):
        self.check_deed(first, second, second)
        self.check_state(first, second, ("nothing", "asked", "follows", "refused"))
        return self.turn_answer(first, second, "bars", 0)

    def unbar(self, second, first):
        self.check_deed(first, second, second)
        self.check_state(first, second, ("barred",))
        return self.turn_answer(first, second, "open", 0)

    def leave(self, person, other=None):
        check_leaving(person, other)
        self.check_doer(person)
        self.put_leaver(person, other)
        letters = []
        for row in self.rows():
            letters.extend(self.turn_of_leaver(person, row))
        return letters

    def take(self, letter):
        if to_house(letter) != self.home:
            raise NotHere("the letter is to another house")
        if letter[3] <= self.held_number(letter):
            return []
        self.put(letter)
        # An answer comes from another house, whose leavers this book doesn't keep.
        return self.answer_for_leaver(letter[1], letter[2])

    def check_row(self, first, second):
        check_pair(first, second)
        if self.home not in (house_of(first), house_of(second)):
            raise NoPair("neither person is of this house")

    def check_doer(self, doer):
        if house_of(doer) != self.home:
            raise NotHere("the doer is of another house")
        if doer in self.leavers:
            raise Gone("the doer has left")

    def check_deed(self, first, second, doer):
        self.check_row(first, second)
        self.check_doer(doer)

    def check_state(self, first, second, fitting):
        now = self.held_state(first, second)
        if now not in fitting:
            raise Wrong(now)

    def held(self, first, second):
        return self.kept.get((first, second), FIRST_HALVES)

    def held_state(self, first, second):
        halves = self.held(first, second)
        return state(halves[0], halves[1])

    # How often the half that the turn tells of was turned, as far as the book knows.
    def held_number(self, turn):
        halves = self.held(turn[1], turn[2])
        return halves[0] if turn[0] == "wish" else halves[1][0]

    def put(self, turn):
        halves = self.held(turn[1], turn[2])
        if turn[0] == "wish":
            self.kept[(turn[1], turn[2])] = (turn[3], halves[1])
        else:
            self.kept[(turn[1], turn[2])] = (halves[0], turn[3:])
        self.written.append(turn_text(turn))

    def put_leaver(self, person, other):
        self.leavers[person] = other
        self.written.append(" ".join(["left", person, "-" if other is None else other]))

    # Tells the letters of a turn of an own half.
    def turn_own(self, turn):
        self.put(turn)
        return [turn] if is_between_houses(turn) else []

    def turn_wish(self, first, second):
        return self.turn_own(("wish", first, second, self.held(first, second)[0] + 1))

    def turn_answer(self, first, second, word, at):
        number = self.held(first, second)[1][0] + 1
        return self.turn_own(("answer", first, second, number, word, at))

    def turn_answer_to_gone(self, first, second):
        other = self.leavers[second]
        if other is None:
            return self.turn_answer(first, second, "gone", 0)
        return self.turn_answer(first, second, "moved", other)

    def turn_of_leaver(self, person, row):
        if row[1] == person:
            return self.turn_answer_to_gone(row[0], person)
        if row[0] == person and asks(row[2]):
            return self.turn_wish(person, row[1])
        return []

    def answer_for_leaver(self, first, second):
        if second not in self.leavers or self.held_state(first, second) == "gone":
            return []
        return self.turn_answer_to_gone(first, second)

    # Tells whether the line can stand there; where it can, it is written.
    def read_line(self, line):
        if not isinstance(line, str):
            return False
        parts = read_parts(line)
        if self.is_leaving(parts):
            self.put_leaver(parts[1], None if parts[2] == "-" else parts[2])
            return True
        if is_turn(parts) and self.is_next(parts):
            self.put(parts)
            return True
        return False

    def is_leaving(self, parts):
        if parts[0] != "left" or len(parts) != 3 or not is_person(parts[1]):
            return False
        if house_of(parts[1]) != self.home or parts[1] in self.leavers:
            return False
        return parts[2] == "-" or (is_person(parts[2]) and parts[2] != parts[1])

    # An own half is turned once at a time; of a copy some turns may never have come.
    def is_next(self, turn):
        if house_of_turner(turn) == self.home:
            return turn[3] == self.held_number(turn) + 1
        if self.home not in (house_of(turn[1]), house_of(turn[2])):
            return False
        return turn[3] > self.held_number(turn)


def read_book(house, lines):
    book = Book(house)
    if not isinstance(lines, list):
        raise NoText(0)
    for row, line in enumerate(lines):
        if not book.read_line(line):
            raise NoText(row)
    return book
