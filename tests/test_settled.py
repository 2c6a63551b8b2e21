"""What a town tells of pairs, of two houses, and of a person (points 19 and 20)."""

import unittest

from bothbooks.books import read_book
from bothbooks.counts import counts, followers, following, in_vain, waiting
from bothbooks.errors import NoHouse, NoPair, NoPerson
from bothbooks.town import Town
from making import (
    ANN, BOB, CAT, NONE, SITUATIONS, TOM, YAN, ZOE, carry_road, do, refusal, refusal_class, told_by_town, town_by,
)

PAIRS = [(ANN, BOB), (ANN, ZOE), (ZOE, ANN), (TOM, ZOE)]
NO_PERSONS = [None, True, 0, "", "ann", "home", "ann@", "Ann@home", "ann@home ", [], [ANN], (ANN,), {}]
FAR = "ann@far"


class TestSettledAndState(unittest.TestCase):
    def test_pairs_without_rows(self):
        town = Town(["home", "away", "third"])
        town.ask(CAT, YAN)
        for first, second in PAIRS:
            self.assertEqual(town.settled(first, second), (0, NONE))
            self.assertEqual(town.state(first, second), "nothing")

    def test_where_all_letters_came(self):
        for first, second in PAIRS:
            for name, deeds in SITUATIONS.items():
                town = town_by(deeds, first, second)
                books = {house: read_book(house, town.lines(house)) for house in town.houses()}
                for person in (first, second):
                    book = books[person.partition("@")[2]]
                    self.assertEqual(town.settled(first, second), (book.wish(first, second), book.answer(first, second)))
                self.assertEqual(town.state(first, second), name.partition(",")[0])

    def test_of_one_house(self):
        town = Town(["home"])
        town.ask(ANN, BOB)
        self.assertEqual((town.settled(ANN, BOB), town.state(ANN, BOB)), ((1, NONE), "asked"))
        town.let(BOB, ANN)
        self.assertEqual((town.settled(ANN, BOB), town.state(ANN, BOB)), ((1, (1, "lets", 1)), "follows"))
        self.assertEqual((town.settled(BOB, ANN), town.state(BOB, ANN)), ((0, NONE), "nothing"))

    def test_while_letters_wait_own_halves_are_told(self):
        town = Town(["home", "away"])
        town.ask(ANN, ZOE)
        town.bar(ZOE, ANN)
        self.assertEqual(town.settled(ANN, ZOE), (1, (1, "bars", 0)))
        # The book of ann's house doesn't know of the bar.
        self.assertEqual(town.state(ANN, ZOE), "asked")
        town.carry(1)
        self.assertEqual(town.state(ANN, ZOE), "barred")
        self.assertEqual(town.settled(ANN, ZOE), (1, (1, "bars", 0)))
        town.unbar(ZOE, ANN)
        self.assertEqual(town.settled(ANN, ZOE), (1, (2, "open", 0)))
        self.assertEqual(town.state(ANN, ZOE), "barred")

    def test_where_letters_were_lost_and_behind_a_mending(self):
        town = town_by(["ask", "let"], ANN, ZOE)
        town.refuse(ZOE, ANN)
        town.take_back(ANN, ZOE)
        town.lose(0)
        town.lose(0)
        self.assertEqual((town.settled(ANN, ZOE), town.state(ANN, ZOE)), ((2, (2, "refuses", 1)), "nothing"))
        town.ask(ANN, ZOE)
        self.assertEqual((town.settled(ANN, ZOE), town.state(ANN, ZOE)), ((3, (2, "refuses", 1)), "asked"))
        self.assertEqual(town.mend("home", "away"), 2)
        carry_road(town)
        self.assertEqual((town.settled(ANN, ZOE), town.state(ANN, ZOE)), ((3, (2, "refuses", 1)), "asked"))

    def test_of_houses_that_are_down(self):
        for houses in [("home",), ("away",), ("home", "away")]:
            town = town_by(["ask", "let"], ANN, ZOE)
            town.refuse(ZOE, ANN)
            for house in houses:
                town.fall(house)
            self.assertEqual((town.settled(ANN, ZOE), town.state(ANN, ZOE)), ((1, (2, "refuses", 1)), "follows"))

    def test_refused(self):
        for down in (None, "home"):
            town = town_by(["ask"], ANN, ZOE, ["home", "away"])
            if down:
                town.fall(down)
            ahead = told_by_town(town)
            for tell in (town.settled, town.state):
                for thing in NO_PERSONS:
                    for other in (ANN, FAR, thing):
                        self.assertIs(refusal_class(tell, thing, other), NoPerson)
                        self.assertIs(refusal_class(tell, other, thing), NoPerson)
                for person in (ANN, ZOE, FAR):
                    self.assertIs(refusal_class(tell, person, person), NoPair)
                for first, second in [(ANN, FAR), (FAR, ANN), (ZOE, FAR), ("bob@far", FAR), (TOM, ANN)]:
                    self.assertIs(refusal_class(tell, first, second), NoHouse)
                for pair in [("secret", ANN), ("x@secret", "x@secret"), ("x@secret", ANN)]:
                    self.assertEqual(vars(refusal(tell, *pair)), {})
                    self.assertNotIn("secret", repr(refusal(tell, *pair)))
            self.assertEqual(told_by_town(town), ahead)


class TestAgree(unittest.TestCase):
    def assert_agree(self, town, wanted):
        """wanted: for each two houses whether they agree."""
        for (one, other), agrees in wanted.items():
            self.assertIs(town.agree(one, other), agrees)
            self.assertIs(town.agree(other, one), agrees)

    def test_each_two_houses(self):
        town = Town(["home", "away", "third"])
        all_agree = {("home", "away"): True, ("home", "third"): True, ("away", "third"): True}
        self.assert_agree(town, all_agree)
        town.ask(ANN, BOB)
        self.assert_agree(town, all_agree)
        town.ask(ANN, ZOE)
        self.assert_agree(town, {**all_agree, ("home", "away"): False})
        town.bar(TOM, ZOE)
        self.assert_agree(town, {("home", "away"): False, ("home", "third"): True, ("away", "third"): False})
        town.carry(0)
        self.assert_agree(town, {**all_agree, ("away", "third"): False})
        town.carry(0)
        self.assert_agree(town, all_agree)

    def test_the_wish_or_the_answer_alone(self):
        town = Town(["home", "away"])
        town.ask(ANN, ZOE)
        self.assertIs(town.agree("home", "away"), False)
        town.bar(ZOE, ANN)
        town.carry(0)
        self.assertIs(town.agree("home", "away"), False)
        town.carry(0)
        self.assertIs(town.agree("home", "away"), True)
        town.take_back(ANN, ZOE)
        self.assertIs(town.agree("home", "away"), False)

    def test_not_by_sums(self):
        # Where a wish is greater by 31 in the one book, and an answer by 1 in the other, sums are alike.
        town = Town(["home", "away"])
        for turn in range(31):
            do(town, "take_back" if turn % 2 else "ask", ANN, ZOE)
        town.bar(ZOE, ANN)
        self.assertIs(town.agree("home", "away"), False)

    def test_in_each_situation(self):
        for name, deeds in SITUATIONS.items():
            for first, second in PAIRS:
                town = town_by(deeds, first, second)
                self.assert_agree(town, {("home", "away"): True, ("home", "third"): True, ("away", "third"): True})

    def test_letters_lost_and_a_mending(self):
        town = Town(["home", "away"])
        town.ask(ANN, ZOE)
        town.lose(0)
        self.assertIs(town.agree("home", "away"), False)
        town.mend("home", "away")
        self.assertIs(town.agree("home", "away"), False)
        town.carry(0)
        self.assertIs(town.agree("home", "away"), True)

    def test_of_houses_that_are_down(self):
        town = town_by(["ask"], ANN, ZOE)
        town.fall("away")
        self.assert_agree(town, {("home", "away"): True, ("away", "third"): True})
        town.take_back(ANN, ZOE)
        town.fall("home")
        self.assert_agree(town, {("home", "away"): False, ("home", "third"): True, ("away", "third"): True})

    def test_refused(self):
        town = town_by(["ask"], ANN, ZOE)
        ahead = told_by_town(town)
        for house in ("home", "away"):
            self.assertIs(refusal_class(town.agree, house, house), NoHouse)
            for thing in [None, True, 0, "", "Home", "far", ANN, [], ["home"], ("home",), {}]:
                self.assertIs(refusal_class(town.agree, house, thing), NoHouse)
                self.assertIs(refusal_class(town.agree, thing, house), NoHouse)
                self.assertIs(refusal_class(town.agree, thing, thing), NoHouse)
        self.assertIs(refusal_class(Town(["home"]).agree, "home", "away"), NoHouse)
        error = refusal(town.agree, "home", "secret")
        self.assertEqual(vars(error), {})
        self.assertNotIn("secret", repr(error))
        self.assertEqual(told_by_town(town), ahead)


class TestCounts(unittest.TestCase):
    def five(self, town, person):
        return [tell(person) for tell in (town.followers, town.following, town.waiting, town.in_vain, town.counts)]

    def town(self):
        town = Town(["home", "away", "third"])
        for first in (ANN, BOB, TOM):
            town.ask(first, ZOE)
        town.ask(ZOE, TOM)
        town.ask(CAT, ANN)
        town.ask(ZOE, ANN)
        carry_road(town)
        town.let(ZOE, TOM)
        town.let(ZOE, ANN)
        town.refuse(TOM, ZOE)
        town.let(ANN, CAT)
        carry_road(town)
        return town

    def test_by_the_book_of_the_persons_house(self):
        town = self.town()
        self.assertEqual(self.five(town, ZOE), [[ANN, TOM], [], [BOB], [ANN, TOM], (2, 0, 1, 2)])
        self.assertEqual(self.five(town, ANN), [[CAT], [ZOE], [ZOE], [], (1, 1, 1, 0)])
        self.assertEqual(self.five(town, BOB), [[], [], [], [ZOE], (0, 0, 0, 1)])
        self.assertEqual(self.five(town, TOM), [[], [ZOE], [], [], (0, 1, 0, 0)])
        self.assertEqual(self.five(town, "new@third"), [[], [], [], [], (0, 0, 0, 0)])

    def test_while_letters_wait(self):
        town = self.town()
        town.refuse(ZOE, ANN)
        self.assertEqual(self.five(town, ZOE)[0], [TOM])
        self.assertEqual(self.five(town, ANN)[1], [ZOE])
        town.take_back(ANN, ZOE)
        self.assertEqual(self.five(town, ANN)[1], [])

    def test_houses_up_and_down(self):
        town = self.town()
        people = [ANN, BOB, CAT, ZOE, TOM, "new@home"]
        ahead = [self.five(town, person) for person in people]
        for house in town.houses():
            town.fall(house)
            self.assertEqual([self.five(town, person) for person in people], ahead)
        town.come_up("home")
        town.take_back(ANN, ZOE)
        self.assertEqual(self.five(town, ZOE), ahead[3])
        self.assertEqual(self.five(town, ANN), [[CAT], [], [ZOE], [], (1, 0, 1, 0)])

    def test_like_the_book(self):
        town = self.town()
        for person in (ANN, BOB, CAT, ZOE, TOM):
            house = person.partition("@")[2]
            book = read_book(house, town.lines(house))
            self.assertEqual(
                self.five(town, person), [tell(book, person) for tell in (followers, following, waiting, in_vain, counts)]
            )

    def test_no_person_then_no_house(self):
        town = self.town()
        ahead = told_by_town(town)
        for tell in (town.followers, town.following, town.waiting, town.in_vain, town.counts):
            for thing in NO_PERSONS:
                self.assertIs(refusal_class(tell, thing), NoPerson)
            for person in (FAR, "zoe@b"):
                self.assertIs(refusal_class(tell, person), NoHouse)
            for person in ("secret", "x@secret"):
                self.assertEqual(vars(refusal(tell, person)), {})
                self.assertNotIn("secret", repr(refusal(tell, person)))
        self.assertEqual(told_by_town(town), ahead)

    def test_told_lists_are_the_askers_own(self):
        town = self.town()
        ahead = [self.five(town, person) for person in (ANN, ZOE)]
        for person in (ANN, ZOE):
            for tell in (town.followers, town.following, town.waiting, town.in_vain):
                tell(person).append("more")
                tell(person).clear()
        self.assertEqual([self.five(town, person) for person in (ANN, ZOE)], ahead)


if __name__ == "__main__":
    unittest.main()
