"""A house's book: its rows, and the deeds of its people (points 2, 9, 10 and 12)."""

import unittest

from bothbooks.books import Book, read_book
from bothbooks.errors import Gone, NoHouse, NoPair, NoPerson, NotHere, Wrong
from making import (
    ANN, BOB, CAT, FIRST_DEEDS, NONE, SECOND_DEEDS, SITUATIONS, TOM, YAN, ZOE, books_by, carry_all, do,
    doer_of, refusal, refusal_class, told,
)

# A pair of one house, and pairs of two houses, either way about.
PAIRS = [(ANN, BOB), (BOB, ANN), (ANN, ZOE), (ZOE, ANN)]
DEEDS = FIRST_DEEDS + SECOND_DEEDS
NO_PERSONS = [None, True, 0, 1, "", "ann", "ann@", "@home", "Ann@home", "ann@home ", "a@b@c", [], [ANN], (ANN,), {}]
# The states in which a deed is done; of take_back it is the wish that counts.
DONE_IN = {
    "ask": ["nothing"],
    "let": ["asked"],
    "refuse": ["asked", "follows"],
    "bar": ["nothing", "asked", "follows", "refused"],
    "unbar": ["barred"],
}
WORDS = {"let": "lets", "refuse": "refuses", "bar": "bars", "unbar": "open"}


def house_of(person):
    return person.partition("@")[2]


class TestNewBook(unittest.TestCase):
    def test_it_tells_its_house_and_nothing_else(self):
        for house in ["home", "a", "abcdef"]:
            self.assertEqual(told(Book(house)), (house, [], [], []))

    def test_pairs_without_a_row(self):
        book = Book("home")
        for first, second in PAIRS:
            self.assertEqual(book.wish(first, second), 0)
            self.assertEqual(book.answer(first, second), NONE)
            self.assertEqual(book.state(first, second), "nothing")
        self.assertEqual(told(book), ("home", [], [], []))

    def test_what_is_no_house(self):
        for thing in [None, True, 0, 1, "", "Home", "abcdefg", "h0me", "home ", "ann@home", [], ["home"], ("home",), {}]:
            self.assertIs(refusal_class(Book, thing), NoHouse, repr(thing))

    def test_books_keep_apart(self):
        one, other = Book("home"), Book("home")
        one.ask(ANN, ZOE)
        one.leave(BOB)
        self.assertEqual(told(other), ("home", [], [], []))


class TestRows(unittest.TestCase):
    def test_wish_answer_and_state_of_a_pair_of_one_house(self):
        book = Book("home")
        book.ask(ANN, BOB)
        self.assertEqual((book.wish(ANN, BOB), book.answer(ANN, BOB), book.state(ANN, BOB)), (1, NONE, "asked"))
        book.let(BOB, ANN)
        self.assertEqual((book.wish(ANN, BOB), book.answer(ANN, BOB)), (1, (1, "lets", 1)))
        self.assertEqual(book.state(ANN, BOB), "follows")
        self.assertEqual((book.wish(BOB, ANN), book.answer(BOB, ANN), book.state(BOB, ANN)), (0, NONE, "nothing"))
        self.assertEqual(book.rows(), [(ANN, BOB, 1, (1, "lets", 1))])

    def test_a_half_that_another_house_turned_is_as_the_last_letter_told_it(self):
        book = Book("home")
        book.ask(ANN, ZOE)
        book.take(("answer", ANN, ZOE, 4, "refuses", 1))
        self.assertEqual((book.wish(ANN, ZOE), book.answer(ANN, ZOE)), (1, (4, "refuses", 1)))
        self.assertEqual(book.state(ANN, ZOE), "refused")
        book.take(("wish", ZOE, ANN, 9))
        self.assertEqual((book.wish(ZOE, ANN), book.answer(ZOE, ANN), book.state(ZOE, ANN)), (9, NONE, "asked"))

    def test_a_pair_has_a_row_as_soon_as_one_half_was_turned(self):
        book = Book("home")
        book.bar(ANN, ZOE)
        self.assertEqual(book.rows(), [(ZOE, ANN, 0, (1, "bars", 0))])
        book.ask(ANN, ZOE)
        book.take_back(ANN, ZOE)
        self.assertEqual(book.rows(), [(ANN, ZOE, 2, NONE), (ZOE, ANN, 0, (1, "bars", 0))])

    def test_rows_are_in_order_of_the_first_then_the_second_person(self):
        people = ["a@home", "a-b@home", "ab@home", "a@away", "b@third", "9@home", "-@home", "aa@away"]
        pairs = [(one, other) for one in people for other in people if one != other]
        pairs = [pair for pair in pairs if "home" in (house_of(pair[0]), house_of(pair[1]))]
        book = Book("home")
        for first, second in sorted(pairs, key=lambda pair: (pair[1][::-1], pair[0])):
            if house_of(first) == "home":
                book.ask(first, second)
            else:
                book.take(("wish", first, second, 1))
        self.assertEqual([row[:2] for row in book.rows()], sorted(pairs))
        self.assertTrue(all(row[2:] == (1, NONE) for row in book.rows()))

    def test_a_told_list_is_the_askers_own(self):
        book = Book("home")
        book.ask(ANN, ZOE)
        book.leave(CAT)
        ahead = told(book)
        for tell in (book.rows, book.left, book.lines):
            tell().append("more")
            tell().clear()
            self.assertEqual(told(book), ahead)
            self.assertIsNot(tell(), tell())

    def test_the_letters_told_are_the_askers_own(self):
        book, like = Book("home"), Book("home")
        letters = book.ask(ANN, ZOE)
        letters.clear()
        like.ask(ANN, ZOE)
        self.assertEqual(told(book), told(like))
        book.take_back(ANN, ZOE).append("more")
        self.assertEqual(book.ask(ANN, ZOE), [("wish", ANN, ZOE, 3)])
        book.ask(CAT, BOB).append("more")
        self.assertEqual(book.let(BOB, CAT), [])

    def test_asked_again_the_same_is_told(self):
        book = books_by(SITUATIONS["follows"], ANN, ZOE)["home"]
        ahead = told(book)
        for turn in range(3):
            self.assertEqual(book.wish(ANN, ZOE), 1)
            self.assertEqual(book.answer(ANN, ZOE), (1, "lets", 1))
            self.assertEqual(book.state(ANN, ZOE), "follows")
            self.assertEqual(book.state(BOB, ZOE), "nothing")
            self.assertEqual(told(book), ahead)


class TestPairsRefused(unittest.TestCase):
    def setUp(self):
        self.book = Book("home")
        self.asked = [self.book.wish, self.book.answer, self.book.state]
        self.all = self.asked + [getattr(self.book, deed) for deed in DEEDS]

    def tearDown(self):
        self.assertEqual(told(self.book), ("home", [], [], []))

    def test_no_person(self):
        for call in self.all:
            for thing in NO_PERSONS:
                for other in [ANN, ZOE, thing]:
                    self.assertIs(refusal_class(call, thing, other), NoPerson, repr(thing))
                    self.assertIs(refusal_class(call, other, thing), NoPerson, repr(thing))

    def test_the_same_person_twice(self):
        for call in self.all:
            for person in [ANN, ZOE]:
                self.assertIs(refusal_class(call, person, person), NoPair)

    def test_neither_is_of_this_house(self):
        for call in self.all:
            for first, second in [(ZOE, YAN), (ZOE, TOM), (TOM, ZOE)]:
                self.assertIs(refusal_class(call, first, second), NoPair)

    def test_a_refusal_bears_no_value(self):
        for first, second in [("secret", ANN), (ANN, "secret"), ("x@secret", "x@secret"), ("x@secret", "y@secret")]:
            for call in self.all:
                self.assertEqual(vars(refusal(call, first, second)), {})
                self.assertNotIn("secret", repr(refusal(call, first, second)))


class TestDeeds(unittest.TestCase):
    def each(self):
        """Each deed in each situation, by the book of each house of the pair."""
        for first, second in PAIRS:
            for name, deeds in SITUATIONS.items():
                for deed in DEEDS:
                    for house in sorted({house_of(first), house_of(second)}):
                        with self.subTest(pair=(first, second), ahead=name, deed=deed, house=house):
                            yield books_by(deeds, first, second)[house], first, second, name, deed

    def is_done(self, book, deed, first, second, state):
        if deed == "take_back":
            return book.wish(first, second) % 2 == 1
        return state in DONE_IN[deed]

    def expected_turn(self, book, deed, first, second):
        wish, answer = book.wish(first, second), book.answer(first, second)
        if deed in FIRST_DEEDS:
            return ("wish", first, second, wish + 1)
        return ("answer", first, second, answer[0] + 1, WORDS[deed], wish if deed in ("let", "refuse") else 0)

    def test_the_situations_are_what_they_are_called(self):
        for first, second in PAIRS:
            for name, deeds in SITUATIONS.items():
                for book in books_by(deeds, first, second).values():
                    self.assertEqual(book.state(first, second), name.partition(",")[0])

    def test_refused_or_done(self):
        for book, first, second, name, deed in self.each():
            state = name.partition(",")[0]
            doer = doer_of(deed, first, second)
            ahead = told(book)
            if house_of(doer) != book.house():
                self.assertIs(refusal_class(do, book, deed, first, second), NotHere)
                self.assertEqual(told(book), ahead)
            elif state == "gone" and doer == second:
                self.assertIs(refusal_class(do, book, deed, first, second), Gone)
                self.assertEqual(told(book), ahead)
            elif not self.is_done(book, deed, first, second, state):
                error = refusal(do, book, deed, first, second)
                self.assertIs(type(error), Wrong)
                self.assertEqual(vars(error), {"now": state})
                self.assertEqual(told(book), ahead)
            else:
                self.assert_done(book, first, second, deed, ahead)

    def assert_done(self, book, first, second, deed, ahead):
        turn = self.expected_turn(book, deed, first, second)
        wish, answer = book.wish(first, second), book.answer(first, second)
        letters = do(book, deed, first, second)
        self.assertEqual(letters, [turn] if house_of(first) != house_of(second) else [])
        row = (first, second, turn[3], answer) if turn[0] == "wish" else (first, second, wish, turn[3:])
        self.assertEqual(book.rows(), [row])
        self.assertEqual(book.lines(), ahead[3] + [" ".join(str(part) for part in turn)])
        self.assertEqual(book.left(), ahead[2])

    def test_both_outcomes_come_up(self):
        """The expectations above are of use only where each of them is met."""
        met = set()
        for book, first, second, name, deed in self.each():
            doer = doer_of(deed, first, second)
            if house_of(doer) == book.house():
                met.add((deed, name.partition(",")[0], refusal_class(do, book, deed, first, second)))
        wanted = {
            ("ask", "nothing", None), ("ask", "asked", Wrong), ("ask", "follows", Wrong), ("ask", "refused", Wrong),
            ("ask", "barred", Wrong), ("ask", "gone", Wrong),
            ("take_back", "nothing", Wrong), ("take_back", "asked", None), ("take_back", "follows", None),
            ("take_back", "refused", None), ("take_back", "barred", None), ("take_back", "barred", Wrong),
            ("take_back", "gone", None), ("take_back", "gone", Wrong),
            ("let", "nothing", Wrong), ("let", "asked", None), ("let", "follows", Wrong), ("let", "refused", Wrong),
            ("let", "barred", Wrong), ("let", "gone", Gone),
            ("refuse", "nothing", Wrong), ("refuse", "asked", None), ("refuse", "follows", None),
            ("refuse", "refused", Wrong), ("refuse", "barred", Wrong), ("refuse", "gone", Gone),
            ("bar", "nothing", None), ("bar", "asked", None), ("bar", "follows", None), ("bar", "refused", None),
            ("bar", "barred", Wrong), ("bar", "gone", Gone),
            ("unbar", "nothing", Wrong), ("unbar", "asked", Wrong), ("unbar", "follows", Wrong),
            ("unbar", "refused", Wrong), ("unbar", "barred", None), ("unbar", "gone", Gone),
        }
        self.assertEqual(met, wanted)

    def test_deeds_of_the_second_one_where_the_answer_says_gone_but_nobody_left(self):
        for line in ["answer zoe@away ann@home 1 gone 0", "answer zoe@away ann@home 1 moved yan@away"]:
            book = read_book("home", [line])
            for deed in SECOND_DEEDS:
                error = refusal(do, book, deed, ZOE, ANN)
                self.assertIs(type(error), Wrong)
                self.assertEqual(error.now, "gone")
                self.assertEqual(book.lines(), [line])

    def test_one_pair_deed_by_deed(self):
        for first, second in PAIRS:
            books = books_by([], first, second)
            steps = [
                ("ask", 1, NONE, "asked"),
                ("let", 1, (1, "lets", 1), "follows"),
                ("refuse", 1, (2, "refuses", 1), "refused"),
                ("take_back", 2, (2, "refuses", 1), "nothing"),
                ("ask", 3, (2, "refuses", 1), "asked"),
                ("bar", 3, (3, "bars", 0), "barred"),
                ("unbar", 3, (4, "open", 0), "asked"),
                ("let", 3, (5, "lets", 3), "follows"),
                ("bar", 3, (6, "bars", 0), "barred"),
                ("take_back", 4, (6, "bars", 0), "barred"),
                ("unbar", 4, (7, "open", 0), "nothing"),
                ("ask", 5, (7, "open", 0), "asked"),
                ("refuse", 5, (8, "refuses", 5), "refused"),
            ]
            for deed, wish, answer, state in steps:
                home = house_of(doer_of(deed, first, second))
                carry_all(books, do(books[home], deed, first, second))
                for book in books.values():
                    self.assertEqual(book.rows(), [(first, second, wish, answer)])
                    self.assertEqual(book.state(first, second), state)

    def test_unbar_then_let_of_a_pair_that_still_asks(self):
        for first, second in PAIRS:
            book = books_by(["ask", "bar"], first, second)[house_of(second)]
            book.unbar(second, first)
            self.assertEqual(book.state(first, second), "asked")
            book.let(second, first)
            self.assertEqual((book.state(first, second), book.answer(first, second)), ("follows", (3, "lets", 1)))

    def test_unbar_does_not_bring_back_a_let(self):
        book = books_by(["ask", "let", "bar", "unbar"], ANN, BOB)["home"]
        self.assertEqual((book.state(ANN, BOB), book.answer(ANN, BOB)), ("asked", (3, "open", 0)))

    def test_a_deed_leaves_other_pairs_alone(self):
        book = Book("home")
        book.ask(BOB, ANN)
        book.ask(CAT, BOB)
        others = book.rows()
        book.ask(ANN, BOB)
        book.let(BOB, ANN)
        book.bar(BOB, ZOE)
        self.assertEqual([row for row in book.rows() if row in others], others)
        self.assertEqual(len(book.rows()), 4)


class TestOrderOfRefusals(unittest.TestCase):
    """Where two refusals are due at once, the one that the document names first goes."""

    def setUp(self):
        self.book = Book("home")
        self.book.ask(ANN, ZOE)
        self.book.leave(BOB)
        self.ahead = told(self.book)

    def tearDown(self):
        self.assertEqual(told(self.book), self.ahead)

    def assert_refused(self, wanted, doer, other):
        for deed in DEEDS:
            with self.subTest(deed=deed, doer=doer, other=other):
                self.assertIs(refusal_class(getattr(self.book, deed), doer, other), wanted)

    def test_no_person_ahead_of_no_pair(self):
        self.assert_refused(NoPerson, "bad", "bad")
        self.assert_refused(NoPerson, ZOE, "bad")
        self.assert_refused(NoPerson, "bad", ZOE)
        for call in (self.book.wish, self.book.answer, self.book.state):
            self.assertIs(refusal_class(call, "bad", "bad"), NoPerson)
            self.assertIs(refusal_class(call, ZOE, "bad"), NoPerson)

    def test_no_person_ahead_of_gone(self):
        self.assert_refused(NoPerson, BOB, "bad")

    def test_no_pair_ahead_of_not_here(self):
        self.assert_refused(NoPair, ZOE, ZOE)
        self.assert_refused(NoPair, ZOE, YAN)
        self.assert_refused(NoPair, TOM, ZOE)

    def test_no_pair_ahead_of_gone(self):
        self.assert_refused(NoPair, BOB, BOB)

    def test_not_here_ahead_of_wrong(self):
        for deed in SECOND_DEEDS:
            self.assertIs(refusal_class(do, self.book, deed, ANN, ZOE), NotHere)
        for deed in FIRST_DEEDS:
            self.assertIs(refusal_class(do, self.book, deed, ZOE, ANN), NotHere)

    def test_not_here_where_the_other_one_has_left(self):
        self.assert_refused(NotHere, ZOE, BOB)

    def test_gone_ahead_of_wrong(self):
        for other in (ANN, ZOE):
            self.assert_refused(Gone, BOB, other)


if __name__ == "__main__":
    unittest.main()
