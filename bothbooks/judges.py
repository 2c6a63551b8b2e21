"""The judge: whether some run leads to two books, by which deeds, or by which rows none does.

Pairs have to do with one another by leavings alone. So each pair is judged by itself, then
who has left; and deeds are found pair by pair, with all leavings behind them, and the
letters that tell answers last.
"""

from bothbooks.errors import NoBook, NoHouse
from bothbooks.halves import FIRST_HALVES, asks, is_answer, is_farewell, is_whole
from bothbooks.people import house_of, is_house, is_person
from bothbooks.runs import do_deed
from bothbooks.town import Town
from bothbooks.turns import find_steps

# The deed by which an answer comes to bear a word.
DEED_OF_WORD = {"lets": "let", "refuses": "refuse", "bars": "bar", "open": "unbar"}


def is_pair_of(house, first, second):
    if not is_person(first) or not is_person(second) or first == second:
        return False
    return house in (house_of(first), house_of(second))


def is_row(house, thing):
    if not isinstance(thing, tuple) or len(thing) != 4 or not is_pair_of(house, thing[0], thing[1]):
        return False
    if not is_whole(thing[2]) or thing[2] < 0 or not is_answer(thing[3]):
        return False
    return thing[2] > 0 or thing[3][0] > 0


def check_book(house, rows):
    if not is_house(house):
        raise NoHouse("a house is a text of one to six small letters")
    if not isinstance(rows, list):
        raise NoBook(0)
    ahead = {}
    for at, row in enumerate(rows):
        if not is_row(house, row) or row[:2] in ahead:
            raise NoBook(at)
        ahead[row[:2]] = True


def halves_by_pair(rows):
    halves = {}
    for row in sorted(rows):
        halves[row[:2]] = row[2:]
    return halves


# One pair in both books. wished: the own wish. known: the wish as the second person's house
# has it. said: the own answer. heard: the answer as the first person's house has it. Where
# both are of one house, known and heard are own halves, too.
class Case:
    def __init__(self, pair, near, far):
        self.first = pair[0]
        self.second = pair[1]
        self.wished = near[0]
        self.heard = near[1]
        self.known = far[0]
        self.said = far[1]

    # A copy was an own half once.
    def copies_fit(self):
        return self.known <= self.wished and (self.heard[0] < self.said[0] or self.heard == self.said)

    # Who leaves turns the answers of the rows that there are, and goes on as itself never.
    def farewell_fits(self):
        return self.said[2] != self.second and (self.said[0] > 1 or self.known > 0)

    # The steps of the answer ahead of a leaving, or None where no run leads to this pair's halves.
    def steps(self):
        if not self.copies_fit() or (is_farewell(self.said) and not self.farewell_fits()):
            return None
        marks = {self.heard[0]: self.heard}
        if is_farewell(self.said):
            return find_steps(self.said[0] - 1, self.known, marks)
        marks[self.said[0]] = self.said
        return find_steps(self.said[0], self.known, marks)


# books, here and below: for each of both houses the halves of its rows, by their pairs.
def pairs_of(books):
    pairs = []
    for house in books:
        pairs.extend(list(books[house]))
    return sorted(set(pairs))


# What the books tell of the pair, also where one has no row.
def rows_of(books, pair):
    houses = [house for house in books if is_pair_of(house, pair[0], pair[1])]
    return [(house, pair + books[house].get(pair, FIRST_HALVES)) for house in houses]


def case_of(books, pair):
    near = books[house_of(pair[0])].get(pair, FIRST_HALVES)
    far = books[house_of(pair[1])].get(pair, FIRST_HALVES)
    return Case(pair, near, far)


# Nobody of a third house does anything in a town of these two.
def is_given(books, pair):
    if house_of(pair[0]) not in books or house_of(pair[1]) not in books:
        return False
    return case_of(books, pair).steps() is not None


# For each person of the house who has left, the first pair that tells it.
def farewells(house, halves):
    told = {}
    for pair in halves:
        if house_of(pair[1]) == house and is_farewell(halves[pair][1]):
            told.setdefault(pair[1], pair)
    return told


# Two pairs of which the one tells that a person has left, and the other one that it asks,
# hasn't left, or has left otherwise; an empty list where there are no such.
def unlike_farewells(house, halves):
    told = farewells(house, halves)
    for pair in halves:
        if pair[1] in told and halves[pair][1][1:] != halves[told[pair[1]]][1][1:]:
            return [told[pair[1]], pair]
        if pair[0] in told and asks(halves[pair][0]):
            return [told[pair[0]], pair]
    return []


# Rows that no run gives together; an empty list where some run gives all.
def rows_against(books):
    for pair in pairs_of(books):
        if not is_given(books, pair):
            return rows_of(books, pair)
    for house in books:
        pairs = unlike_farewells(house, books[house])
        if pairs != []:
            return [(house, pair + books[house][pair]) for pair in pairs]
    return []


# Deeds are found by doing them in a town, which tells where on the road a letter lies.
class Finder:
    def __init__(self, houses):
        self.town = Town(houses)
        self.found = []

    def do(self, deed):
        do_deed(self.town, deed)
        self.found.append(deed)

    # A letter that isn't on the road was carried already, or there is nothing to tell.
    def carry(self, letter):
        road = self.town.road()
        if letter in road:
            self.do(("carry", road.index(letter)))

    def wish(self, case, wish):
        for number in range(self.town.settled(case.first, case.second)[0], wish):
            self.do(("back" if asks(number) else "ask", case.first, case.second))

    def make_known(self, case, wish):
        if house_of(case.first) == house_of(case.second):
            self.wish(case, wish)
        else:
            self.carry(("wish", case.first, case.second, wish))

    # Each wish is made known ahead of a bar, behind which nobody of the same house asks.
    def answer(self, case):
        steps = case.steps()
        for number, step in enumerate(steps):
            at_next = [later[1] for later in steps[number:] if later[0] in ("lets", "refuses")]
            self.make_known(case, at_next[0] if at_next else case.known)
            self.do((DEED_OF_WORD[step[0]], case.second, case.first))
        self.make_known(case, case.known)

    def leave(self, house, halves):
        told = farewells(house, halves)
        for person in told:
            answer = halves[told[person]][1]
            self.do(("leave", person, answer[2] if answer[1] == "moved" else None))

    def hear(self, case):
        self.carry(("answer", case.first, case.second) + case.heard)


def find_deeds(books):
    finder = Finder(list(books))
    cases = [case_of(books, pair) for pair in pairs_of(books)]
    for case in cases:
        # Nothing of an answer was heard yet that would keep somebody from asking.
        if house_of(case.first) != house_of(case.second):
            finder.wish(case, case.wished)
        finder.answer(case)
    for house in books:
        finder.leave(house, books[house])
    for case in cases:
        finder.hear(case)
    return finder.found


def judged(house, rows, other, others):
    check_book(house, rows)
    check_book(other, others)
    if house == other:
        raise NoHouse("both books are of one house")
    books = {house: halves_by_pair(rows), other: halves_by_pair(others)}
    against = rows_against(books)
    return ("none", against) if against != [] else ("run", find_deeds(books))
