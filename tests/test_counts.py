"""Counts of a book (points 2 and 20)."""

import unittest

from bothbooks.books import Book
from bothbooks.counts import counts, followers, following, in_vain, waiting
from bothbooks.errors import NoPerson, NotHere
from making import ANN, BOB, SITUATIONS, ZOE, books_by, refusal, refusal_class, told

LISTS = [followers, following, waiting, in_vain]


def told_of(book, person):
    return [tell(book, person) for tell in LISTS]


def full_book():
    """ann has rows of each state, as first and as second one, with people of her house and of others."""
    book = Book("home")
    for name, house in [("c", "away"), ("a", "home"), ("b", "third"), ("d", "home")]:
        for state in ("let", "refuse", "bar", "wait", "back"):
            other = f"{state}-{name}@{house}"
            book.ask(ANN, other)
            if house == "home":
                book.ask(other, ANN)
            else:
                book.take(("wish", other, ANN, 1))
            if state in ("let", "refuse", "bar"):
                getattr(book, state)(ANN, other)
                answer = {"let": (1, "lets", 1), "refuse": (1, "refuses", 1), "bar": (1, "bars", 0)}[state]
                if house == "home":
                    getattr(book, state)(other, ANN)
                else:
                    book.take(("answer", ANN, other) + answer)
            elif state == "back":
                book.take_back(ANN, other)
                if house == "home":
                    book.take_back(other, ANN)
                else:
                    book.take(("wish", other, ANN, 2))
    return book


def people(*states):
    """The people of these states, sorted."""
    return sorted(f"{state}-{part}" for state in states for part in ("c@away", "a@home", "b@third", "d@home"))


class TestCounts(unittest.TestCase):
    def test_rows_of_each_state(self):
        book = full_book()
        self.assertEqual(followers(book, ANN), people("let"))
        self.assertEqual(following(book, ANN), people("let"))
        self.assertEqual(waiting(book, ANN), people("wait"))
        self.assertEqual(in_vain(book, ANN), people("wait", "refuse"))
        self.assertEqual(counts(book, ANN), (4, 4, 4, 8))

    def test_as_first_one_alone(self):
        book = Book("home")
        for other in (ZOE, BOB, "zed@away", "amy@third"):
            book.ask(ANN, other)
        self.assertEqual(told_of(book, ANN), [[], [], [], ["amy@third", BOB, "zed@away", ZOE]])
        self.assertEqual(counts(book, ANN), (0, 0, 0, 4))
        self.assertEqual(told_of(book, BOB), [[], [], [ANN], []])
        book.let(BOB, ANN)
        book.take(("answer", ANN, ZOE, 1, "lets", 1))
        book.take(("answer", ANN, "zed@away", 1, "refuses", 1))
        self.assertEqual(told_of(book, ANN), [[], [BOB, ZOE], [], ["amy@third", "zed@away"]])
        self.assertEqual(counts(book, ANN), (0, 2, 0, 2))
        self.assertEqual(told_of(book, BOB), [[ANN], [], [], []])

    def test_as_second_one_alone(self):
        book = Book("home")
        for other in (ZOE, "zed@away", "amy@third"):
            book.take(("wish", other, ANN, 3))
        book.ask(BOB, ANN)
        self.assertEqual(told_of(book, ANN), [[], [], ["amy@third", BOB, "zed@away", ZOE], []])
        book.let(ANN, ZOE)
        book.let(ANN, BOB)
        book.refuse(ANN, "zed@away")
        self.assertEqual(told_of(book, ANN), [[BOB, ZOE], [], ["amy@third"], []])
        self.assertEqual(counts(book, ANN), (2, 0, 1, 0))
        self.assertEqual(told_of(book, BOB), [[], [ANN], [], []])

    def test_each_situation(self):
        for name, deeds in SITUATIONS.items():
            state = name.partition(",")[0]
            for second in (BOB, ZOE):
                book = books_by(deeds, ANN, second)["home"]
                wanted = [
                    [], [second] if state == "follows" else [], [], [second] if state in ("asked", "refused") else [],
                ]
                self.assertEqual(told_of(book, ANN), wanted)
                self.assertEqual(counts(book, ANN), tuple(len(part) for part in wanted))
            for first in (BOB, ZOE):
                book = books_by(deeds, first, ANN)["home"]
                wanted = [[first] if state == "follows" else [], [], [first] if state == "asked" else [], []]
                self.assertEqual(told_of(book, ANN), wanted)
                self.assertEqual(counts(book, ANN), tuple(len(part) for part in wanted))

    def test_a_person_of_the_house_without_a_row(self):
        for book in (Book("home"), full_book()):
            self.assertEqual(told_of(book, "new@home"), [[], [], [], []])
            self.assertEqual(counts(book, "new@home"), (0, 0, 0, 0))

    def test_a_let_of_another_wish_counts_no_follower(self):
        book = Book("home")
        book.take(("wish", ZOE, ANN, 1))
        book.let(ANN, ZOE)
        book.take(("wish", ZOE, ANN, 3))
        self.assertEqual(told_of(book, ANN), [[], [], [ZOE], []])

    def test_who_is_barred_or_left_counts_no_longer(self):
        book = books_by(["ask", "let"], ZOE, ANN)["home"]
        self.assertEqual(followers(book, ANN), [ZOE])
        book.bar(ANN, ZOE)
        self.assertEqual(told_of(book, ANN), [[], [], [], []])
        book.unbar(ANN, ZOE)
        self.assertEqual(told_of(book, ANN), [[], [], [ZOE], []])
        book.let(ANN, ZOE)
        book.leave(ANN)
        self.assertEqual(told_of(book, ANN), [[], [], [], []])


class TestRefused(unittest.TestCase):
    def test_no_person(self):
        book = full_book()
        for tell in LISTS + [counts]:
            for thing in [None, True, 0, "", "ann", "home", "ann@", "Ann@home", "ann@home ", [], [ANN], (ANN,), {}]:
                self.assertIs(refusal_class(tell, book, thing), NoPerson, repr(thing))

    def test_not_of_this_house_also_where_it_has_rows(self):
        book = full_book()
        for tell in LISTS + [counts]:
            for person in [ZOE, "let-c@away", "wait-b@third", "x@new"]:
                self.assertIs(refusal_class(tell, book, person), NotHere)

    def test_a_refusal_bears_no_value(self):
        for tell in LISTS + [counts]:
            for person in ["secret", "x@secret"]:
                error = refusal(tell, Book("home"), person)
                self.assertEqual(vars(error), {})
                self.assertNotIn("secret", repr(error))


class TestNothingChanges(unittest.TestCase):
    def test_what_is_asked_changes_nothing(self):
        book = full_book()
        ahead = told(book)
        first_time = told_of(book, ANN) + [counts(book, ANN)]
        for tell in LISTS:
            tell(book, ANN).clear()
            tell(book, ANN).append("more")
        self.assertEqual(told_of(book, ANN) + [counts(book, ANN)], first_time)
        self.assertEqual(told(book), ahead)
        for tell in LISTS + [counts]:
            refusal(tell, book, ZOE)
        self.assertEqual(told(book), ahead)


if __name__ == "__main__":
    unittest.main()
