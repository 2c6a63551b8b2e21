"""Mending, of two books and in a town (points 24 and 25)."""

import unittest

from bothbooks.books import Book
from bothbooks.errors import Fallen, NoHouse
from bothbooks.letters import from_house, is_letter, to_house
from bothbooks.mends import lacking, mending
from bothbooks.sums import shared
from bothbooks.town import Town
from making import (
    ANN, BOB, CAT, SITUATIONS, TOM, YAN, ZOE, books_by, carry_all, refusal, refusal_class, told, told_by_town,
)


def drifted():
    """Books that lack letters either way, of wishes and answers, and rows that are not shared."""
    home, away = Book("home"), Book("away")
    home.ask(BOB, ZOE)
    home.ask(ANN, ZOE)
    home.take_back(ANN, ZOE)
    home.bar(CAT, YAN)
    home.unbar(CAT, YAN)
    away.take(home.ask(BOB, YAN)[0])
    away.refuse(YAN, BOB)
    away.ask(ZOE, BOB)
    away.bar(ZOE, CAT)
    home.ask(ANN, BOB)
    home.ask(ANN, TOM)
    away.ask(YAN, ZOE)
    away.bar(YAN, TOM)
    return home, away


class TestLacking(unittest.TestCase):
    def test_of_wishes_and_answers_in_the_order_of_shared_pairs(self):
        home, away = drifted()
        self.assertEqual(lacking(home, away), [
            ("wish", ANN, ZOE, 2), ("wish", BOB, ZOE, 1), ("answer", YAN, CAT, 2, "open", 0),
        ])
        self.assertEqual(lacking(away, home), [
            ("answer", BOB, YAN, 1, "refuses", 1), ("answer", CAT, ZOE, 1, "bars", 0), ("wish", ZOE, BOB, 1),
        ])

    def test_mending_is_both_the_ones_first(self):
        home, away = drifted()
        self.assertEqual(mending(home, away), lacking(home, away) + lacking(away, home))
        self.assertEqual(mending(away, home), lacking(away, home) + lacking(home, away))
        self.assertEqual(len(mending(home, away)), 6)

    def test_they_are_letters_from_the_one_to_the_other(self):
        home, away = drifted()
        for one, other in [(home, away), (away, home)]:
            for letter in lacking(one, other):
                self.assertTrue(is_letter(letter))
                self.assertEqual((from_house(letter), to_house(letter)), (one.house(), other.house()))

    def test_none_where_the_copy_is_the_same(self):
        for deeds in SITUATIONS.values():
            books = books_by(deeds, ANN, ZOE)
            self.assertEqual(lacking(books["home"], books["away"]), [])
            self.assertEqual(mending(books["away"], books["home"]), [])

    def test_none_where_the_copy_is_greater(self):
        home, away = Book("home"), Book("away")
        home.ask(ANN, ZOE)
        away.take(("wish", ANN, ZOE, 2))
        away.bar(ZOE, ANN)
        home.take(("answer", ANN, ZOE, 2, "open", 0))
        self.assertEqual(mending(home, away), [])
        away.take(("wish", BOB, ZOE, 7))
        self.assertEqual(mending(home, away), [])

    def test_one_half_or_both_of_a_pair(self):
        home, away = Book("home"), Book("away")
        self.assertEqual(mending(home, away), [])
        home.ask(ANN, ZOE)
        self.assertEqual((lacking(home, away), lacking(away, home)), ([("wish", ANN, ZOE, 1)], []))
        away.bar(ZOE, ANN)
        self.assertEqual(mending(home, away), [("wish", ANN, ZOE, 1), ("answer", ANN, ZOE, 1, "bars", 0)])
        self.assertEqual(mending(away, home), [("answer", ANN, ZOE, 1, "bars", 0), ("wish", ANN, ZOE, 1)])

    def test_a_half_is_told_as_it_stands_however_often_it_was_turned(self):
        home, away = Book("home"), Book("away")
        for turn in range(4):
            home.ask(ANN, ZOE)
            home.take_back(ANN, ZOE)
            away.bar(ZOE, ANN)
            away.unbar(ZOE, ANN)
        self.assertEqual(mending(home, away), [("wish", ANN, ZOE, 8), ("answer", ANN, ZOE, 8, "open", 0)])
        away.take(("wish", ANN, ZOE, 7))
        self.assertEqual(lacking(home, away), [("wish", ANN, ZOE, 8)])

    def test_each_letter_tells_one_half_and_none_tells_two(self):
        home, away = drifted()
        letters = mending(home, away)
        self.assertEqual(len({letter[:3] for letter in letters}), len(letters))
        differing = 0
        for pair in shared(home, away):
            differing += home.wish(*pair) != away.wish(*pair)
            differing += home.answer(*pair) != away.answer(*pair)
        self.assertEqual(len(letters), differing)

    def test_carried_nothing_is_lacking(self):
        home, away = drifted()
        carry_all({"home": home, "away": away}, mending(home, away))
        self.assertEqual(mending(home, away), [])
        for pair in shared(home, away):
            self.assertEqual(home.wish(*pair), away.wish(*pair))
            self.assertEqual(home.answer(*pair), away.answer(*pair))

    def test_two_books_of_one_house(self):
        home, away = drifted()
        for tell in (lacking, mending):
            for one, other in [(home, home), (home, Book("home")), (Book("away"), away)]:
                error = refusal(tell, one, other)
                self.assertIs(type(error), NoHouse)
                self.assertEqual(vars(error), {})

    def test_nothing_is_changed_and_told_lists_are_the_askers_own(self):
        home, away = drifted()
        ahead = (told(home), told(away), lacking(home, away), mending(home, away))
        lacking(home, away).clear()
        mending(home, away).append("more")
        self.assertEqual((told(home), told(away), lacking(home, away), mending(home, away)), ahead)


class TestMend(unittest.TestCase):
    def town(self):
        town = Town(["home", "away", "third"])
        town.ask(ANN, ZOE)
        town.bar(ZOE, ANN)
        town.ask(TOM, ZOE)
        town.ask(BOB, TOM)
        for turn in range(4):
            town.lose(0)
        town.ask(CAT, YAN)
        return town

    def test_the_number_and_the_road(self):
        wish, answer = ("wish", ANN, ZOE, 1), ("answer", ANN, ZOE, 1, "bars", 0)
        on_road = ("wish", CAT, YAN, 1)
        for one, other, letters in [
            ("home", "away", [wish, on_road, answer]), ("away", "home", [answer, wish, on_road]),
            ("away", "third", [("wish", TOM, ZOE, 1)]), ("third", "home", [("wish", BOB, TOM, 1)]),
        ]:
            town = self.town()
            ahead = told_by_town(town)
            self.assertEqual(town.mend(one, other), len(letters))
            self.assertEqual(town.road(), [on_road] + letters)
            self.assertEqual(told_by_town(town)[2], ahead[2])

    def test_nothing_is_lacking(self):
        town = Town(["home", "away"])
        self.assertEqual(town.mend("home", "away"), 0)
        self.assertEqual(town.road(), [])

    def test_twice(self):
        town = self.town()
        self.assertEqual(town.mend("away", "third"), 1)
        self.assertEqual(town.mend("away", "third"), 1)
        self.assertEqual(len(town.road()), 3)
        town.carry(1)
        self.assertEqual(town.mend("away", "third"), 0)

    def test_no_house(self):
        for down in ([], ["home"], ["home", "away", "third"]):
            town = self.town()
            for house in down:
                town.fall(house)
            ahead = told_by_town(town)
            for house in town.houses():
                self.assertIs(refusal_class(town.mend, house, house), NoHouse)
                for thing in [None, True, 0, "", "Home", "far", ANN, [], ["home"], ("home",), {}]:
                    self.assertIs(refusal_class(town.mend, house, thing), NoHouse)
                    self.assertIs(refusal_class(town.mend, thing, house), NoHouse)
                    self.assertIs(refusal_class(town.mend, thing, thing), NoHouse)
            self.assertEqual(told_by_town(town), ahead)

    def test_then_fallen(self):
        town = self.town()
        town.fall("home")
        ahead = told_by_town(town)
        for one, other in [("home", "away"), ("away", "home"), ("third", "home")]:
            error = refusal(town.mend, one, other)
            self.assertIs(type(error), Fallen)
            self.assertEqual(vars(error), {})
        self.assertEqual(told_by_town(town), ahead)
        self.assertEqual(town.mend("away", "third"), 1)
        town.fall("away")
        self.assertIs(refusal_class(town.mend, "home", "away"), Fallen)
        town.come_up("home")
        self.assertIs(refusal_class(town.mend, "home", "away"), Fallen)
        town.come_up("away")
        self.assertEqual(town.mend("home", "away"), 3)


if __name__ == "__main__":
    unittest.main()
