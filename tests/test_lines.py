"""A book's lines, and a book read from them (points 2, 3, 14 and 15)."""

import random
import unittest

from bothbooks.books import Book, read_book
from bothbooks.errors import BookError, NoHouse, NoText
from bothbooks.letters import to_house
from making import ANN, BOB, CAT, NONE, SITUATIONS, TOM, YAN, ZOE, books_by, refusal, refusal_class, told

NINES = "9" * 20

# Lines that stand in this order in home's book: own halves, copies, leavings.
GOOD = [
    "wish ann@home zoe@away 1",
    "answer ann@home zoe@away 3 lets 1",
    "wish ann@home bob@home 1",
    "answer ann@home bob@home 1 refuses 1",
    "wish zoe@away ann@home 7",
    "answer zoe@away ann@home 1 bars 0",
    "left cat@home -",
    "answer zoe@away ann@home 2 open 0",
    "left dan@home tom@third",
]
# Lines that can't stand in home's book, wherever, also behind GOOD.
BAD = [
    # Not written so.
    "", " ", "-", "wish", "answer", "left", "wish ann@home", "wish ann@home tom@third 1 1",
    "answer ann@home tom@third 1", "answer ann@home tom@third 1 bars", "answer ann@home tom@third 1 bars 0 0",
    "left bob@home", "left bob@home - -", "left - bob@home", "left bob@home 0", "left bob@home None", "left bob@home tom",
    "left bob@home @", "left bob -", "left 0 -", "Wish ann@home tom@third 1", "ask ann@home tom@third", "book home",
    "ann@home tom@third 1 0 none 0", "wish ann@home tom@third 1\n", "\nwish ann@home tom@third 1",
    "wish ann@home tom@third 1\nwish ann@home tom@third 2", "wish\nann@home tom@third 1", "left bob@home -\n",
    "wish ann@home tom 1", "wish ann tom@third 1", "wish 1 2 3", "wish ann@home Tom@third 1",
    "wish ann@home tom@toolong 1", "wish 123456789@home tom@third 1", "answer ann@home tom 1 bars 0",
    # Blanks.
    " wish ann@home tom@third 1", "wish ann@home tom@third 1 ", "wish  ann@home tom@third 1",
    "wish ann@home  tom@third 1", "wish ann@home tom@third  1", " answer ann@home tom@third 1 bars 0",
    "answer ann@home tom@third 1 bars 0 ", "answer ann@home tom@third 1  bars 0", "answer ann@home tom@third  1 bars 0",
    " left bob@home -", "left bob@home - ", "left  bob@home -", "left bob@home  -",
    # Numbers.
    "wish ann@home tom@third one", "wish ann@home tom@third 01", "wish ann@home tom@third 001",
    "wish ann@home tom@third +1", "wish ann@home tom@third -1", "wish ann@home tom@third 1.0",
    "wish ann@home tom@third 1_0", "wish ann@home tom@third", "wish tom@third ann@home 07",
    "wish tom@third ann@home " + "1" * 21, "wish tom@third ann@home 1" + "0" * 20, "wish tom@third ann@home 0" + "1" * 19,
    "wish tom@third ann@home 0" + "1" * 20,
    "answer ann@home tom@third " + "1" * 21 + " bars 0", "answer ann@home tom@third 01 bars 0",
    "answer ann@home tom@third 1 bars 00", "answer ann@home tom@third 1 lets 01",
    "answer ann@home tom@third 1 lets " + "1" * 21, "answer tom@third ann@home 1 lets 0" + "1" * 20,
    # A pair without a person of this house, or twice the same.
    "wish zoe@away tom@third 1", "answer zoe@away tom@third 1 bars 0", "wish zoe@away yan@away 1",
    "wish ann@home ann@home 1", "answer ann@home ann@home 1 bars 0", "wish zoe@away zoe@away 1",
    # An own half that isn't turned just once, a copy that isn't greater.
    "wish ann@home tom@third 0", "wish ann@home tom@third 2", "wish ann@home tom@third 3", "wish bob@home cat@home 0",
    "wish bob@home cat@home 2", "answer tom@third ann@home 2 bars 0", "answer tom@third ann@home 2 open 0",
    "answer bob@home cat@home 2 bars 0", "wish tom@third ann@home 0", "wish ann@home tom@third " + NINES,
    "answer tom@third ann@home " + NINES + " bars 0",
    # An answer that is none.
    "answer ann@home tom@third 0 none 0", "answer ann@home tom@third 1 none 0", "answer tom@third ann@home 0 none 0",
    "answer ann@home tom@third 0 bars 0", "answer ann@home tom@third 1 open 0", "answer ann@home tom@third 1 lets 0",
    "answer ann@home tom@third 1 lets 2", "answer ann@home tom@third 1 lets zoe@away",
    "answer ann@home tom@third 1 refuses 2", "answer ann@home tom@third 1 bars 1", "answer ann@home tom@third 1 gone 1",
    "answer ann@home tom@third 1 gone zoe@away", "answer ann@home tom@third 1 moved 0",
    "answer ann@home tom@third 1 moved -", "answer ann@home tom@third 1 moved zoe", "answer ann@home tom@third 1 let 1",
    "answer ann@home tom@third 1 1 lets", "answer ann@home tom@third 2 open -",
    # A leaving of one not of the house, or who goes on as itself.
    "left zoe@away -", "left zoe@away ann@home", "left bob@home bob@home", "left bob@homes -",
    # What is no text.
    None, True, 0, 1, [], ["wish ann@home tom@third 1"], ("wish", ANN, TOM, 1), {},
]
# Lines that can't stand behind GOOD, because of what stands there.
BAD_BEHIND = [
    "wish ann@home zoe@away 1", "wish ann@home zoe@away 0", "wish ann@home zoe@away 3",
    "answer ann@home zoe@away 3 refuses 1", "answer ann@home zoe@away 2 open 0", "answer ann@home zoe@away 1 bars 0",
    "wish ann@home bob@home 1", "wish ann@home bob@home 3", "answer ann@home bob@home 1 lets 1",
    "answer ann@home bob@home 3 lets 1", "wish zoe@away ann@home 7", "wish zoe@away ann@home 6",
    "wish zoe@away ann@home 1", "answer zoe@away ann@home 2 bars 0", "answer zoe@away ann@home 4 bars 0",
    "answer zoe@away ann@home 1 bars 0", "left cat@home -", "left cat@home tom@third", "left dan@home -",
    "left dan@home tom@third",
]
# Lines that can stand behind GOOD: whether a deed could have turned it is not looked at.
GOOD_BEHIND = [
    "wish ann@home zoe@away 2", "answer ann@home zoe@away 4 lets 99", "answer ann@home zoe@away 9 open 0",
    "wish ann@home bob@home 2", "answer ann@home bob@home 2 refuses 1", "answer ann@home bob@home 2 open 0",
    "answer ann@home bob@home 2 lets 77", "wish zoe@away ann@home 8", "wish zoe@away ann@home " + NINES,
    "answer zoe@away ann@home 3 lets " + NINES, "answer zoe@away ann@home 3 open 0", "answer zoe@away ann@home 3 gone 0",
    "answer zoe@away ann@home 3 moved ann@home", "answer zoe@away ann@home 3 moved zoe@away",
    "answer ann@home tom@third " + NINES + " bars 0", "answer ann@home tom@third 1 lets " + NINES,
    "wish cat@home tom@third 1", "answer tom@third cat@home 1 lets 5", "answer tom@third cat@home 1 bars 0",
    "left bob@home cat@home", "left bob@home tom@third", "left -@home -", "left bob@home -@home",
    "wish 12345678@home -@abcdef 1",
]


def rows_by(lines):
    """Rows as the lines tell them, turn by turn."""
    wishes, answers = {}, {}
    for words in [line.split(" ") for line in lines]:
        if words[0] == "wish":
            wishes[(words[1], words[2])] = int(words[3])
        elif words[0] == "answer":
            at = words[5] if "@" in words[5] else int(words[5])
            answers[(words[1], words[2])] = (int(words[3]), words[4], at)
    pairs = sorted(set(wishes) | set(answers))
    return [pair + (wishes.get(pair, 0), answers.get(pair, NONE)) for pair in pairs]


def left_by(lines):
    words = [line.split(" ") for line in lines]
    return sorted((word[1], None if word[2] == "-" else word[2]) for word in words if word[0] == "left")


class TestLines(unittest.TestCase):
    def test_lines_of_each_deed(self):
        deeds = ["ask", "let", "refuse", "take_back", "ask", "bar", "unbar", "let", "leave"]
        wish, answer = "wish {} {} ", "answer {} {} "
        lines = [
            wish + "1", answer + "1 lets 1", answer + "2 refuses 1", wish + "2", wish + "3", answer + "3 bars 0",
            answer + "4 open 0", answer + "5 lets 3", answer + "6 gone 0",
        ]
        for first, second in [(ANN, BOB), (ANN, ZOE), (ZOE, ANN)]:
            for house, book in books_by(deeds, first, second).items():
                wanted = [line.format(first, second) for line in lines]
                if second.endswith("@" + house):
                    wanted.insert(8, f"left {second} -")
                self.assertEqual(book.lines(), wanted)

    def test_lines_of_letters(self):
        book = Book("home")
        for letter in [
            ("wish", ZOE, ANN, 4), ("wish", ZOE, ANN, 3), ("answer", ANN, ZOE, 2, "lets", 9), ("wish", ZOE, ANN, 4),
            ("answer", ANN, ZOE, 1, "bars", 0), ("answer", ANN, ZOE, 3, "moved", TOM), ("wish", ZOE, ANN, 5),
        ]:
            book.take(letter)
        self.assertEqual(book.lines(), [
            "wish zoe@away ann@home 4", "answer ann@home zoe@away 2 lets 9", "answer ann@home zoe@away 3 moved tom@third",
            "wish zoe@away ann@home 5",
        ])

    def test_lines_of_leavings(self):
        book = Book("home")
        book.leave(CAT)
        book.ask(ANN, ZOE)
        book.ask(BOB, ANN)
        book.leave(ANN, YAN)
        book.leave(BOB, other="bob@third")
        self.assertEqual(book.lines(), [
            "left cat@home -", "wish ann@home zoe@away 1", "wish bob@home ann@home 1", "left ann@home yan@away",
            "wish ann@home zoe@away 2", "answer bob@home ann@home 1 moved yan@away", "left bob@home bob@third",
            "wish bob@home ann@home 2",
        ])


class TestReading(unittest.TestCase):
    def assert_refused(self, lines, row):
        error = refusal(read_book, "home", lines)
        self.assertIs(type(error), NoText, repr(lines))
        self.assertEqual(vars(error), {"row": row}, repr(lines))

    def test_no_lines(self):
        self.assertEqual(told(read_book("home", [])), ("home", [], [], []))

    def test_good_lines_and_each_beginning_of_them(self):
        for many in range(len(GOOD) + 1):
            lines = GOOD[:many]
            self.assertEqual(told(read_book("home", lines)), ("home", rows_by(lines), left_by(lines), lines))
        self.assertEqual(read_book("home", GOOD).rows(), [
            (ANN, BOB, 1, (1, "refuses", 1)), (ANN, ZOE, 1, (3, "lets", 1)), (ZOE, ANN, 7, (2, "open", 0)),
        ])
        self.assertEqual(read_book("home", GOOD).left(), [(CAT, None), ("dan@home", TOM)])

    def test_what_else_can_stand_behind(self):
        for line in GOOD_BEHIND:
            lines = GOOD + [line]
            self.assertEqual(told(read_book("home", lines)), ("home", rows_by(lines), left_by(lines), lines))

    def test_each_reason_at_the_first_a_middle_and_the_last_line(self):
        for line in BAD:
            for place in (0, 4, len(GOOD)):
                self.assert_refused(GOOD[:place] + [line] + GOOD[place:], place)

    def test_what_cannot_stand_there_because_of_what_stands_ahead(self):
        for line in BAD_BEHIND:
            self.assert_refused(GOOD + [line], len(GOOD))
            self.assert_refused(GOOD + ["wish bob@home tom@third 1", line, "wish tom@third bob@home 1"], len(GOOD) + 1)

    def test_each_line_twice(self):
        for place, line in enumerate(GOOD):
            self.assert_refused(GOOD[:place + 1] + GOOD[place:], place + 1)
            self.assert_refused(GOOD + [line], len(GOOD))

    def test_the_first_of_several_is_told(self):
        self.assert_refused(["", None, "left bob -"], 0)
        self.assert_refused(["wish ann@home bob@home 1", "wish ann@home bob@home 1", ""], 1)

    def test_lines_of_another_house(self):
        self.assert_refused(["wish zoe@away yan@away 1"], 0)
        self.assertEqual(read_book("away", ["wish zoe@away yan@away 1"]).rows(), [(ZOE, YAN, 1, NONE)])
        # The copy of the one house is the own half of the other one.
        self.assertEqual(read_book("home", ["wish zoe@away ann@home 7"]).wish(ZOE, ANN), 7)
        self.assertIs(refusal_class(read_book, "away", ["wish zoe@away ann@home 7"]), NoText)
        self.assertEqual(read_book("away", ["answer zoe@away ann@home 7 bars 0"]).answer(ZOE, ANN), (7, "bars", 0))
        self.assert_refused(["answer zoe@away ann@home 7 bars 0"], 0)

    def test_what_is_no_list(self):
        for thing in [None, True, 0, 1, "", "wish ann@home zoe@away 1", (), tuple(GOOD), {}, {0: GOOD[0]}]:
            self.assert_refused(thing, 0)

    def test_no_house_ahead_of_no_text(self):
        for house in [None, 0, "", "Home", "ann@home", ["home"], "abcdefg"]:
            for lines in [[], GOOD, [""], None, "x"]:
                self.assertIs(refusal_class(read_book, house, lines), NoHouse)

    def test_the_list_handed_in_is_neither_changed_nor_kept(self):
        lines = list(GOOD)
        book = read_book("home", lines)
        self.assertEqual(lines, GOOD)
        lines.append("left bob@home -")
        lines[0] = "wish ann@home zoe@away 5"
        self.assertEqual(told(book), told(read_book("home", GOOD)))
        book.ask(ANN, TOM)
        self.assertEqual(lines[1:], GOOD[1:] + ["left bob@home -"])
        wrong = GOOD + [""]
        refusal(read_book, "home", wrong)
        self.assertEqual(wrong, GOOD + [""])


class TestGoingOnAlike(unittest.TestCase):
    PEOPLE = [ANN, BOB, YAN, ZOE, TOM]

    def random_deed(self, chance, road):
        """A deed by its name and arguments: mostly one that may be done, sometimes one that may not."""
        one, other = chance.sample(self.PEOPLE, 2)
        if road and chance.random() < 0.3:
            return ("take", chance.choice(road))
        if chance.random() < 0.02:
            return ("leave", one, chance.choice([None, other]))
        return (chance.choice(["ask"] * 4 + ["let"] * 3 + ["take_back", "refuse", "bar", "unbar"]), one, other)

    def do(self, book, deed):
        """What comes of a deed: letters, or the refusal with what it bears."""
        try:
            return getattr(book, deed[0])(*deed[1:])
        except BookError as error:
            return (type(error), vars(error))

    def walk(self, seed, steps):
        """Yields the books of three houses ahead of each step, and the step."""
        chance = random.Random(seed)
        books = {house: Book(house) for house in ("home", "away", "third")}
        road = []
        for step in range(steps):
            deed = self.random_deed(chance, road)
            house = to_house(deed[1]) if deed[0] == "take" else deed[1].partition("@")[2]
            yield books[house], deed
            letters = self.do(books[house], deed)
            if isinstance(letters, list):
                road.extend(letters)

    def test_a_book_tells_what_its_lines_tell(self):
        for seed in range(6):
            for book, deed in self.walk(seed, 150):
                self.assertEqual(book.rows(), rows_by(book.lines()))
                self.assertEqual(book.left(), left_by(book.lines()))

    def test_a_row_of_deeds_in_a_book_and_in_its_likes(self):
        for seed in range(6):
            deeds = [deed for book, deed in self.walk(seed, 120)]
            for house in ("home", "away"):
                here = [deed for deed in deeds if deed[0] != "take" or to_house(deed[1]) == house]
                book = Book(house)
                for many, deed in enumerate(here):
                    if many % 10 == 0:
                        like = read_book(house, book.lines())
                    self.assertEqual(self.do(like, deed), self.do(book, deed))
                    self.assertEqual(told(like), told(book))

    def test_a_book_read_from_any_beginning(self):
        for seed in range(3):
            books = {book.house(): book for book, deed in self.walk(seed, 150)}
            for house, book in books.items():
                lines = book.lines()
                self.assertGreater(len(lines), 5)
                for many in range(len(lines) + 1):
                    start = read_book(house, lines[:many])
                    self.assertEqual(told(start), (house, rows_by(lines[:many]), left_by(lines[:many]), lines[:many]))
                    for line in lines[many:]:
                        self.assertTrue(start.read_line(line))
                    self.assertEqual(told(start), told(book))

    def test_a_leaving_without_its_turns_goes_on(self):
        lines = ["wish bob@home ann@home 1", "wish zoe@away ann@home 1", "left ann@home tom@third"]
        book = read_book("home", lines)
        self.assertEqual(book.state(BOB, ANN), "asked")
        self.assertEqual(book.take_back(BOB, ANN), [])
        self.assertEqual(book.answer(BOB, ANN), NONE)
        self.assertEqual(book.ask(BOB, ANN), [])
        self.assertEqual((book.wish(BOB, ANN), book.answer(BOB, ANN)), (3, (1, "moved", TOM)))
        self.assertEqual(book.take(("wish", ZOE, ANN, 2)), [("answer", ZOE, ANN, 1, "moved", TOM)])

    def test_each_situation_is_read_again(self):
        for deeds in SITUATIONS.values():
            for house, book in books_by(deeds, ANN, ZOE).items():
                self.assertEqual(told(read_book(house, book.lines())), told(book))

    def test_books_agree_as_soon_as_all_letters_are_carried(self):
        chance = random.Random(5)
        for seed in range(6):
            books = {house: Book(house) for house in ("home", "away", "third")}
            road = []
            for step in range(100):
                deed = self.random_deed(chance, [])
                came = self.do(books[deed[1].partition("@")[2]], deed)
                road.extend(came if isinstance(came, list) else [])
            while road:
                letter = road.pop(chance.randrange(len(road)))
                road.extend(books[to_house(letter)].take(letter))
            for one, other in [("home", "away"), ("home", "third"), ("away", "third")]:
                rows = [
                    [row for row in books[house].rows() if {row[0][4:], row[1][4:]} == {one, other}]
                    for house in (one, other)
                ]
                self.assertEqual(rows[0], rows[1])
                self.assertNotEqual(rows[0], [])


if __name__ == "__main__":
    unittest.main()
