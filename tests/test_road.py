"""The road of a town: letters carried, lost and doubled (point 17)."""

import unittest

from bothbooks.errors import NoLetter
from bothbooks.town import Town
from making import ANN, BOB, NONE, TOM, YAN, ZOE, carry_road, refusal, refusal_class, told_by_town

LETTERS = [
    ("wish", ANN, ZOE, 1), ("wish", BOB, ZOE, 1), ("answer", BOB, YAN, 1, "bars", 0), ("wish", TOM, ANN, 1),
]


def busy_town():
    """A town with the four letters above on its road."""
    town = Town(["home", "away", "third"])
    town.ask(ANN, ZOE)
    town.ask(BOB, ZOE)
    town.bar(YAN, BOB)
    town.ask(TOM, ANN)
    return town


def books_of(town):
    return told_by_town(town)[2]


class TestCarry(unittest.TestCase):
    def test_from_the_first_a_middle_and_the_last_place(self):
        rows = [
            ("away", (ANN, ZOE, 1, NONE)), ("away", (BOB, ZOE, 1, NONE)),
            ("home", (BOB, YAN, 0, (1, "bars", 0))), ("home", (TOM, ANN, 1, NONE)),
        ]
        for number, (house, row) in enumerate(rows):
            town = busy_town()
            ahead = {house: town.rows(house) for house in town.houses()}
            self.assertIsNone(town.carry(number))
            self.assertEqual(town.road(), LETTERS[:number] + LETTERS[number + 1:])
            ahead[house] = sorted([old for old in ahead[house] if old[:2] != row[:2]] + [row])
            self.assertEqual({house: town.rows(house) for house in town.houses()}, ahead)

    def test_the_line_of_the_letter_is_written(self):
        town = busy_town()
        town.carry(2)
        self.assertEqual(town.lines("home")[-1], "answer bob@home yan@away 1 bars 0")
        town.carry(0)
        self.assertEqual(town.lines("away")[-1], "wish ann@home zoe@away 1")

    def test_what_comes_of_it_goes_to_the_roads_end(self):
        for other, answer in [(None, (1, "gone", 0)), (YAN, (1, "moved", YAN))]:
            town = busy_town()
            town.leave(ZOE, other)
            self.assertEqual(town.road(), LETTERS)
            town.carry(1)
            self.assertEqual(town.road(), [LETTERS[0]] + LETTERS[2:] + [("answer", BOB, ZOE) + answer])
            town.carry(0)
            self.assertEqual(town.road(), LETTERS[2:] + [("answer", BOB, ZOE) + answer, ("answer", ANN, ZOE) + answer])
            carry_road(town)
            self.assertEqual(town.state(ANN, ZOE), "gone")

    def test_out_of_turn(self):
        town = Town(["home", "away"])
        town.ask(ANN, ZOE)
        town.take_back(ANN, ZOE)
        town.ask(ANN, ZOE)
        town.carry(2)
        self.assertEqual(town.rows("away"), [(ANN, ZOE, 3, NONE)])
        ahead = books_of(town)
        town.carry(1)
        town.carry(0)
        self.assertEqual(books_of(town), ahead)
        self.assertEqual(town.road(), [])

    def test_to_a_house_that_is_down_it_is_lost(self):
        town = busy_town()
        town.fall("away")
        ahead = books_of(town)
        self.assertIsNone(town.carry(1))
        self.assertEqual(town.road(), [LETTERS[0]] + LETTERS[2:])
        self.assertEqual(books_of(town), ahead)
        town.come_up("away")
        carry_road(town)
        self.assertEqual(town.rows("away"), [(ANN, ZOE, 1, NONE), (BOB, YAN, 0, (1, "bars", 0))])

    def test_from_a_house_that_is_down_it_is_carried(self):
        town = busy_town()
        town.fall("home")
        town.carry(0)
        self.assertEqual(town.rows("away")[0], (ANN, ZOE, 1, NONE))

    def test_to_a_house_that_is_down_nothing_comes_of_it(self):
        town = busy_town()
        town.leave(ZOE)
        town.fall("away")
        town.carry(0)
        self.assertEqual(town.road(), LETTERS[1:])


class TestLose(unittest.TestCase):
    def test_it_leaves_the_road_and_nothing_else(self):
        for number in range(4):
            for down in (None, "away", "home"):
                town = busy_town()
                if down:
                    town.fall(down)
                ahead = books_of(town)
                self.assertIsNone(town.lose(number))
                self.assertEqual(town.road(), LETTERS[:number] + LETTERS[number + 1:])
                self.assertEqual(books_of(town), ahead)

    def test_the_last_one(self):
        town = Town(["home", "away"])
        town.ask(ANN, ZOE)
        town.lose(0)
        self.assertEqual(town.road(), [])
        self.assertIs(refusal_class(town.lose, 0), NoLetter)


class TestDouble(unittest.TestCase):
    def test_a_like_letter_at_the_roads_end(self):
        for number in range(4):
            for down in (None, "away", "home"):
                town = busy_town()
                if down:
                    town.fall(down)
                ahead = books_of(town)
                self.assertIsNone(town.double(number))
                self.assertEqual(town.road(), LETTERS + [LETTERS[number]])
                self.assertEqual(books_of(town), ahead)

    def test_doubled_twice_and_carried(self):
        town = Town(["home", "away"])
        town.ask(ANN, ZOE)
        town.double(0)
        town.double(1)
        self.assertEqual(town.road(), [LETTERS[0]] * 3)
        town.carry(1)
        ahead = books_of(town)
        carry_road(town)
        self.assertEqual(books_of(town), ahead)
        self.assertEqual(town.lines("away"), ["wish ann@home zoe@away 1"])

    def test_a_doubled_letter_stays_where_the_other_one_is_lost(self):
        town = Town(["home", "away"])
        town.ask(ANN, ZOE)
        town.double(0)
        town.lose(0)
        town.carry(0)
        self.assertEqual(town.rows("away"), [(ANN, ZOE, 1, NONE)])


class TestRefused(unittest.TestCase):
    NO_NUMBERS = [-1, -4, -5, 4, 5, 10 ** 20, True, False, None, "", "0", "1", [], [0], (0,), {}, LETTERS[0]]

    def test_any_other_number_and_anything(self):
        town = busy_town()
        ahead = told_by_town(town)
        for deed in (town.carry, town.lose, town.double):
            for number in self.NO_NUMBERS:
                error = refusal(deed, number)
                self.assertIs(type(error), NoLetter, repr(number))
                self.assertEqual(vars(error), {})
                self.assertEqual(told_by_town(town), ahead)

    def test_on_an_empty_road(self):
        for town in (Town(["home"]), Town(["home", "away"])):
            for deed in (town.carry, town.lose, town.double):
                for number in [0, 1] + self.NO_NUMBERS:
                    self.assertIs(refusal_class(deed, number), NoLetter)

    def test_a_refusal_bears_no_value(self):
        town = busy_town()
        for deed in (town.carry, town.lose, town.double):
            self.assertNotIn("secret", repr(refusal(deed, "secret")))
            self.assertNotIn("7654321", repr(refusal(deed, 7654321)))


if __name__ == "__main__":
    unittest.main()
