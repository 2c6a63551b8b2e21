"""Leaving, the letters of it, and letters that a book takes (points 2, 3, 11, 12 and 13)."""

import unittest

from bothbooks.books import Book, read_book
from bothbooks.errors import Gone, NoLetter, NoPair, NoPerson, NotHere, Wrong
from making import (
    ANN, BOB, CAT, FIRST_DEEDS, NONE, SECOND_DEEDS, SITUATIONS, TOM, TWENTY, YAN, ZOE, books_by,
    carry_all, refusal, refusal_class, told,
)

OTHERS = [BOB, CAT, ZOE, TOM, "new@home", "ann@away", "-@new"]


def full_book():
    """ann has rows of each sort, as first and as second one, with people of her house and of others."""
    book = Book("home")
    book.ask(ANN, BOB)
    book.ask(ANN, CAT)
    book.take_back(ANN, CAT)
    book.ask(ANN, TOM)
    book.take(("answer", ANN, TOM, 1, "lets", 1))
    book.ask(ANN, YAN)
    book.take_back(ANN, YAN)
    book.ask(ANN, YAN)
    book.ask(ANN, ZOE)
    book.take_back(ANN, ZOE)
    book.ask(BOB, ANN)
    book.let(ANN, BOB)
    book.ask(CAT, ANN)
    book.take_back(CAT, ANN)
    book.take(("wish", TOM, ANN, 5))
    book.refuse(ANN, TOM)
    book.bar(ANN, YAN)
    book.bar(ANN, ZOE)
    book.unbar(ANN, ZOE)
    book.ask(BOB, ZOE)
    return book


def rows_behind(word, at):
    return [
        (ANN, BOB, 2, NONE),
        (ANN, CAT, 2, NONE),
        (ANN, TOM, 2, (1, "lets", 1)),
        (ANN, YAN, 4, NONE),
        (ANN, ZOE, 2, NONE),
        (BOB, ANN, 1, (2, word, at)),
        (BOB, ZOE, 1, NONE),
        (CAT, ANN, 2, (1, word, at)),
        (TOM, ANN, 5, (2, word, at)),
        (YAN, ANN, 0, (2, word, at)),
        (ZOE, ANN, 0, (3, word, at)),
    ]


def letters_behind(word, at):
    return [
        ("wish", ANN, TOM, 2),
        ("wish", ANN, YAN, 4),
        ("answer", TOM, ANN, 2, word, at),
        ("answer", YAN, ANN, 2, word, at),
        ("answer", ZOE, ANN, 3, word, at),
    ]


def lines_behind(word, at, other):
    return [
        f"left ann@home {other}",
        "wish ann@home bob@home 2",
        "wish ann@home tom@third 2",
        "wish ann@home yan@away 4",
        f"answer bob@home ann@home 2 {word} {at}",
        f"answer cat@home ann@home 1 {word} {at}",
        f"answer tom@third ann@home 2 {word} {at}",
        f"answer yan@away ann@home 2 {word} {at}",
        f"answer zoe@away ann@home 3 {word} {at}",
    ]


class TestLeaving(unittest.TestCase):
    def assert_left(self, book, letters, ahead, word, at, other):
        self.assertEqual(letters, letters_behind(word, at))
        self.assertEqual(book.rows(), rows_behind(word, at))
        self.assertEqual(book.lines(), ahead + lines_behind(word, at, "-" if other is None else other))
        self.assertEqual(book.left(), [(ANN, other)])

    def test_telling_nobody(self):
        book = full_book()
        ahead = book.lines()
        self.assert_left(book, book.leave(ANN), ahead, "gone", 0, None)

    def test_telling_none_by_place_and_by_name(self):
        book, like = full_book(), full_book()
        ahead = book.lines()
        self.assert_left(book, book.leave(ANN, None), ahead, "gone", 0, None)
        self.assert_left(like, like.leave(ANN, other=None), ahead, "gone", 0, None)

    def test_telling_another_person_by_place_and_by_name(self):
        for other in OTHERS:
            with self.subTest(other=other):
                book, like = full_book(), full_book()
                ahead = book.lines()
                self.assert_left(book, book.leave(ANN, other), ahead, "moved", other, other)
                self.assert_left(like, like.leave(ANN, other=other), ahead, "moved", other, other)

    def test_without_rows(self):
        book = Book("home")
        self.assertEqual(book.leave(ANN), [])
        self.assertEqual(book.leave(BOB, ZOE), [])
        self.assertEqual(told(book), (
            "home", [], [(ANN, None), (BOB, ZOE)], ["left ann@home -", "left bob@home zoe@away"],
        ))

    def test_answers_of_each_word_are_turned(self):
        for name, deeds in SITUATIONS.items():
            if name.startswith("gone"):
                continue
            for first in (BOB, ZOE):
                book = books_by(deeds, first, ANN)["home"]
                wish, answer, known = book.wish(first, ANN), book.answer(first, ANN), book.rows() != []
                letters = book.leave(ANN, TOM)
                turned = (answer[0] + 1, "moved", TOM)
                self.assertEqual(book.rows(), [(first, ANN, wish, turned)] if known else [])
                self.assertEqual(letters, [("answer", first, ANN) + turned] if known and first == ZOE else [])

    def test_wishes_that_ask_alone_are_turned(self):
        for name, deeds in SITUATIONS.items():
            for second in (BOB, ZOE):
                book = books_by(deeds, ANN, second)["home"]
                wish, answer = book.wish(ANN, second), book.answer(ANN, second)
                letters = book.leave(ANN)
                behind = wish + wish % 2
                self.assertEqual((book.wish(ANN, second), book.answer(ANN, second)), (behind, answer))
                told_so = behind != wish and second == ZOE
                self.assertEqual(letters, [("wish", ANN, ZOE, behind)] if told_so else [])

    def test_those_who_left_are_told_sorted(self):
        book = Book("home")
        for person, other in [(CAT, None), ("zed@home", ANN), (ANN, TOM), (BOB, None), ("-@home", CAT)]:
            book.leave(person, other)
        self.assertEqual(book.left(), [
            ("-@home", CAT), (ANN, TOM), (BOB, None), (CAT, None), ("zed@home", ANN),
        ])

    def test_it_may_go_on_as_one_who_has_left(self):
        book = Book("home")
        book.leave(ANN, BOB)
        book.leave(BOB, ANN)
        self.assertEqual(book.left(), [(ANN, BOB), (BOB, ANN)])

    def test_a_second_leaving(self):
        for other in (None, BOB, TOM):
            book = full_book()
            book.leave(ANN, TOM)
            ahead = told(book)
            self.assertIs(refusal_class(book.leave, ANN, other), Gone)
            self.assertEqual(told(book), ahead)

    def test_deeds_behind_it(self):
        book = full_book()
        book.leave(ANN)
        ahead = told(book)
        for deed in FIRST_DEEDS + SECOND_DEEDS:
            for other in (BOB, CAT, TOM, YAN, ZOE, "new@new"):
                self.assertIs(refusal_class(getattr(book, deed), ANN, other), Gone)
        self.assertEqual(told(book), ahead)

    def test_others_go_on(self):
        book = full_book()
        book.leave(ANN)
        self.assertEqual(book.take_back(BOB, ZOE), [("wish", BOB, ZOE, 2)])
        self.assertEqual(book.take_back(BOB, ANN), [])
        self.assertEqual((book.wish(BOB, ANN), book.answer(BOB, ANN)), (2, (2, "gone", 0)))
        error = refusal(book.ask, BOB, ANN)
        self.assertEqual((type(error), error.now), (Wrong, "gone"))
        self.assertEqual(book.bar(BOB, ANN), [])


class TestLeavingRefused(unittest.TestCase):
    def setUp(self):
        self.book = Book("home")
        self.book.ask(ANN, ZOE)
        self.book.leave(BOB)
        self.ahead = told(self.book)

    def tearDown(self):
        self.assertEqual(told(self.book), self.ahead)

    def assert_refused(self, wanted, *arguments):
        self.assertIs(refusal_class(self.book.leave, *arguments), wanted, repr(arguments))

    def test_no_person(self):
        for thing in [None, True, 0, "", "ann", "ann@", "Ann@home", [], [ANN], (ANN,)]:
            for other in ([], [None], [ANN], [thing]):
                self.assert_refused(NoPerson, thing, *other)

    def test_the_other_is_no_person(self):
        for thing in [True, False, 0, 1, "", "-", "ann", "ann@", "Ann@home", "None", [], [ANN], (ANN,)]:
            # Ahead of NotHere and of Gone, too.
            for person in (ANN, ZOE, BOB):
                self.assert_refused(NoPerson, person, thing)

    def test_both_are_the_same(self):
        # Ahead of NotHere and of Gone, too.
        for person in (ANN, ZOE, BOB):
            self.assert_refused(NoPair, person, person)

    def test_not_of_the_house(self):
        for other in (None, ANN, BOB, YAN, TOM):
            self.assert_refused(NotHere, ZOE, other)

    def test_the_other_may_be_of_any_house(self):
        self.assert_refused(Gone, BOB, ZOE)
        self.assertEqual(Book("home").leave(ANN, ZOE), [])


class TestTaking(unittest.TestCase):
    def test_wishes_of_a_lesser_the_same_and_a_greater_number(self):
        book = Book("home")
        self.assertEqual(book.take(("wish", ZOE, ANN, 5)), [])
        ahead = told(book)
        for wish in (1, 2, 4, 5):
            self.assertEqual(book.take(("wish", ZOE, ANN, wish)), [])
            self.assertEqual(told(book), ahead)
        for wish in (6, 9, TWENTY):
            self.assertEqual(book.take(("wish", ZOE, ANN, wish)), [])
            self.assertEqual(book.rows(), [(ZOE, ANN, wish, NONE)])
        self.assertEqual(book.lines(), [f"wish zoe@away ann@home {wish}" for wish in (5, 6, 9, TWENTY)])

    def test_answers_of_a_lesser_the_same_and_a_greater_number(self):
        book = Book("home")
        self.assertEqual(book.take(("answer", ANN, ZOE, 4, "refuses", 3)), [])
        ahead = told(book)
        for answer in [(1, "bars", 0), (3, "lets", 3), (4, "refuses", 3), (4, "lets", 5), (4, "gone", 0)]:
            self.assertEqual(book.take(("answer", ANN, ZOE) + answer), [])
            self.assertEqual(told(book), ahead)
        for answer in [(5, "lets", 1), (7, "bars", 0), (8, "open", 0), (TWENTY, "moved", ANN)]:
            self.assertEqual(book.take(("answer", ANN, ZOE) + answer), [])
            self.assertEqual(book.rows(), [(ANN, ZOE, 0, answer)])
        self.assertEqual(book.lines(), [
            "answer ann@home zoe@away 4 refuses 3",
            "answer ann@home zoe@away 5 lets 1",
            "answer ann@home zoe@away 7 bars 0",
            "answer ann@home zoe@away 8 open 0",
            "answer ann@home zoe@away 99999999999999999999 moved ann@home",
        ])

    def test_the_other_half_stays(self):
        book = Book("home")
        book.ask(ANN, ZOE)
        book.take(("answer", ANN, ZOE, 1, "lets", 1))
        self.assertEqual(book.rows(), [(ANN, ZOE, 1, (1, "lets", 1))])
        book.bar(ANN, ZOE)
        book.take(("wish", ZOE, ANN, 3))
        self.assertEqual(book.rows(), [(ANN, ZOE, 1, (1, "lets", 1)), (ZOE, ANN, 3, (1, "bars", 0))])

    def test_taken_twice(self):
        for letter in [("wish", ZOE, ANN, 1), ("answer", ANN, ZOE, 2, "open", 0)]:
            book = Book("home")
            book.take(letter)
            ahead = told(book)
            self.assertEqual(book.take(letter), [])
            self.assertEqual(told(book), ahead)

    def test_from_a_house_that_the_book_never_heard_of(self):
        book = Book("home")
        book.ask(ANN, ZOE)
        self.assertEqual(book.take(("wish", "x@new", ANN, 1)), [])
        self.assertEqual(book.take(("answer", "nobody@home", "x@new", 1, "bars", 0)), [])
        self.assertEqual(book.rows(), [
            (ANN, ZOE, 1, NONE), ("nobody@home", "x@new", 0, (1, "bars", 0)), ("x@new", ANN, 1, NONE),
        ])

    def test_to_another_house(self):
        book = full_book()
        ahead = told(book)
        for letter in [
            ("wish", ANN, ZOE, 9), ("answer", ZOE, ANN, 9, "bars", 0), ("wish", TOM, ZOE, 1),
            ("answer", TOM, ZOE, 1, "bars", 0),
        ]:
            self.assertIs(refusal_class(book.take, letter), NotHere)
            self.assertEqual(told(book), ahead)

    def test_what_is_no_letter(self):
        book = full_book()
        ahead = told(book)
        for thing in [
            None, 0, "", "wish zoe@away ann@home 1", [], ["wish", ZOE, ANN, 9], ("wish", ZOE, ANN), (),
            ("wish", ZOE, ANN, 0), ("wish", BOB, ANN, 9), ("wish", ANN, ANN, 9), ("answer", ANN, ZOE, 9, "none", 0),
            ("answer", ANN, ZOE, 9, "lets", 2), ("answer", ANN, ZOE, 9, "lets", 1, 1),
            # These would not be to this house, either: NoLetter goes first.
            ("wish", ANN, ZOE, 0), ("wish", YAN, ZOE, 1), ("answer", TOM, ZOE, 1, "none", 0),
        ]:
            self.assertIs(refusal_class(book.take, thing), NoLetter, repr(thing))
            self.assertEqual(told(book), ahead)

    def test_a_refusal_bears_no_value(self):
        for thing in [("wish", "x@secret", "y@secret", 1), ("wish", ANN, "x@secret", 1)]:
            error = refusal(Book("home").take, thing)
            self.assertEqual(vars(error), {})
            self.assertNotIn("secret", repr(error))

    def test_what_is_told_is_the_takers_own(self):
        book = Book("home")
        book.leave(ANN)
        book.take(("wish", ZOE, ANN, 1)).clear()
        self.assertEqual(book.rows(), [(ZOE, ANN, 1, (1, "gone", 0))])
        book.take(("wish", ZOE, ANN, 1)).append("more")
        self.assertEqual(book.take(("wish", ZOE, ANN, 1)), [])

    def test_the_letter_handed_in_stays(self):
        letter = ("wish", ZOE, ANN, 1)
        book = Book("home")
        book.leave(ANN)
        book.take(letter)
        self.assertEqual(letter, ("wish", ZOE, ANN, 1))
        thing = ["wish", ZOE, ANN, 1]
        refusal(book.take, thing)
        self.assertEqual(thing, ["wish", ZOE, ANN, 1])


class TestWishesToOneWhoHasLeft(unittest.TestCase):
    def left_book(self, other):
        book = Book("home")
        book.leave(ANN, other)
        return book

    def test_wishes_that_ask_and_wishes_that_do_not(self):
        for other, word, at in [(None, "gone", 0), (TOM, "moved", TOM), (ZOE, "moved", ZOE), (BOB, "moved", BOB)]:
            for wish in (1, 2, 3, TWENTY - 1, TWENTY):
                book = self.left_book(other)
                self.assertEqual(book.take(("wish", ZOE, ANN, wish)), [("answer", ZOE, ANN, 1, word, at)])
                self.assertEqual(book.rows(), [(ZOE, ANN, wish, (1, word, at))])
                self.assertEqual(book.lines()[1:], [
                    f"wish zoe@away ann@home {wish}", f"answer zoe@away ann@home 1 {word} {at}",
                ])

    def test_it_is_answered_once(self):
        for other in (None, TOM):
            book = self.left_book(other)
            book.take(("wish", ZOE, ANN, 3))
            answer = book.answer(ZOE, ANN)
            for wish in (1, 3, 4, 5):
                self.assertEqual(book.take(("wish", ZOE, ANN, wish)), [])
                self.assertEqual(book.answer(ZOE, ANN), answer)
            self.assertEqual(book.wish(ZOE, ANN), 5)

    def test_a_pair_that_had_a_row_when_it_left_is_not_answered_again(self):
        book = Book("home")
        book.take(("wish", ZOE, ANN, 1))
        book.leave(ANN)
        self.assertEqual(book.take(("wish", ZOE, ANN, 2)), [])
        self.assertEqual(book.rows(), [(ZOE, ANN, 2, (1, "gone", 0))])

    def test_the_turns_of_a_leaving_are_lacking(self):
        book = read_book("home", ["wish zoe@away ann@home 1", "answer zoe@away ann@home 1 lets 1", "left ann@home -"])
        self.assertEqual(book.take(("wish", ZOE, ANN, 1)), [])
        self.assertEqual(book.take(("wish", ZOE, ANN, 2)), [("answer", ZOE, ANN, 2, "gone", 0)])

    def test_answers_to_one_who_has_left_are_taken_alone(self):
        book = Book("home")
        book.ask(ANN, ZOE)
        book.leave(ANN)
        self.assertEqual(book.take(("answer", ANN, ZOE, 1, "lets", 1)), [])
        self.assertEqual(book.rows(), [(ANN, ZOE, 2, (1, "lets", 1))])

    def test_somebody_of_the_same_house_asks(self):
        for other, word, at in [(None, "gone", 0), (TOM, "moved", TOM), (BOB, "moved", BOB)]:
            book = self.left_book(other)
            self.assertEqual(book.ask(BOB, ANN), [])
            self.assertEqual(book.rows(), [(BOB, ANN, 1, (1, word, at))])
            self.assertEqual(book.lines()[1:], [
                "wish bob@home ann@home 1", f"answer bob@home ann@home 1 {word} {at}",
            ])
            self.assertEqual(book.state(BOB, ANN), "gone")
            book.take_back(BOB, ANN)
            self.assertEqual(book.rows(), [(BOB, ANN, 2, (1, word, at))])
            self.assertIs(refusal_class(book.ask, BOB, ANN), Wrong)

    def test_somebody_of_another_house_asks_and_is_told(self):
        books = {"home": self.left_book(TOM), "away": Book("away")}
        carry_all(books, books["away"].ask(ZOE, ANN))
        for book in books.values():
            self.assertEqual(book.rows(), [(ZOE, ANN, 1, (1, "moved", TOM))])
        self.assertEqual(books["away"].left(), [])
        self.assertEqual(books["away"].take_back(ZOE, ANN), [("wish", ZOE, ANN, 2)])


if __name__ == "__main__":
    unittest.main()
