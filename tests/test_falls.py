"""Houses that fall, come up and slip (point 18)."""

import random
import unittest

from bothbooks.errors import Fallen, Gone, NoHouse, Standing, Wrong
from bothbooks.town import Town
from making import (
    ANN, BOB, NONE, PEOPLE_DEEDS, YAN, ZOE, carry_road, do_in_town, draw_deeds, people_of, refusal, refusal_class,
    told_by_town,
)

NO_HOUSES = [None, True, 0, "", "Home", "third", "abcdefg", ANN, [], ["home"], ("home",), {}]


def busy_town():
    """ann follows zoe, bob waits for zoe, and two letters are on the road, one each way."""
    town = Town(["home", "away"])
    town.ask(ANN, ZOE)
    town.ask(BOB, ZOE)
    carry_road(town)
    town.let(ZOE, ANN)
    carry_road(town)
    town.ask(BOB, YAN)
    town.bar(YAN, ANN)
    return town


def told_of_people(town):
    people = people_of(town.houses(), ["ann", "bob", "yan", "zoe"])
    tells = (town.followers, town.following, town.waiting, town.in_vain, town.counts)
    pairs = [(first, second) for first in people for second in people if first != second]
    return (
        [[tell(person) for tell in tells] for person in people],
        [(town.settled(*pair), town.state(*pair)) for pair in pairs],
        [town.agree(one, other) for one in town.houses() for other in town.houses() if one != other],
    )


class TestFallAndComeUp(unittest.TestCase):
    def test_up_and_down(self):
        town = busy_town()
        self.assertIsNone(town.fall("home"))
        self.assertEqual((town.is_up("home"), town.is_up("away")), (False, True))
        self.assertIsNone(town.fall("away"))
        self.assertEqual((town.is_up("home"), town.is_up("away")), (False, False))
        self.assertIsNone(town.come_up("home"))
        self.assertEqual((town.is_up("home"), town.is_up("away")), (True, False))
        self.assertIsNone(town.come_up("away"))
        self.assertEqual((town.is_up("home"), town.is_up("away")), (True, True))

    def test_twice_each(self):
        town = busy_town()
        self.assertIs(refusal_class(town.come_up, "home"), Standing)
        town.fall("home")
        ahead = told_by_town(town)
        self.assertIs(refusal_class(town.fall, "home"), Fallen)
        self.assertIs(refusal_class(town.slip, "home"), Fallen)
        self.assertEqual(told_by_town(town), ahead)
        town.come_up("home")
        ahead = told_by_town(town)
        self.assertIs(refusal_class(town.come_up, "home"), Standing)
        self.assertEqual(told_by_town(town), ahead)

    def test_no_house(self):
        town = busy_town()
        ahead = told_by_town(town)
        for deed in (town.fall, town.come_up, town.slip):
            for thing in NO_HOUSES:
                error = refusal(deed, thing)
                self.assertIs(type(error), NoHouse, repr(thing))
                self.assertEqual(vars(error), {})
            self.assertNotIn("secret", repr(refusal(deed, "secret")))
        self.assertEqual(told_by_town(town), ahead)
        town.fall("home")
        for deed in (town.fall, town.come_up):
            error = refusal(deed, "away" if deed == town.come_up else "home")
            self.assertEqual(vars(error), {})

    def test_what_a_house_that_is_down_told_last_is_told_still(self):
        for houses in [("home",), ("away",), ("home", "away")]:
            town = busy_town()
            ahead, of_people = told_by_town(town), told_of_people(town)
            for house in houses:
                town.fall(house)
            self.assertEqual(told_of_people(town), of_people)
            self.assertEqual(town.road(), ahead[1])
            for house, up, rows, lines in ahead[2]:
                self.assertEqual((town.rows(house), town.lines(house)), (rows, lines))
            self.assertEqual(town.houses(), ["home", "away"])
            for house in houses:
                town.come_up(house)
            self.assertEqual((told_by_town(town), told_of_people(town)), (ahead, of_people))
            self.assertEqual(town.houses(), ["home", "away"])

    def test_the_other_house_goes_on(self):
        town = busy_town()
        town.fall("away")
        rows, lines = town.rows("away"), town.lines("away")
        town.take_back(ANN, ZOE)
        town.carry(1)
        self.assertEqual(town.settled(ANN, ZOE), (2, (1, "lets", 1)))
        self.assertEqual(town.state(ANN, YAN), "barred")
        self.assertIs(town.agree("home", "away"), False)
        self.assertEqual((town.rows("away"), town.lines("away")), (rows, lines))
        self.assertEqual(town.followers(ZOE), [ANN])
        self.assertEqual(town.following(ANN), [])

    def test_who_left_has_left_behind_a_fall(self):
        town = busy_town()
        town.leave(ZOE, YAN)
        carry_road(town)
        town.fall("away")
        town.come_up("away")
        self.assertIs(refusal_class(town.let, ZOE, BOB), Gone)
        town.ask("new@home", ZOE)
        town.carry(0)
        self.assertEqual(town.road(), [("answer", "new@home", ZOE, 1, "moved", YAN)])

    def test_the_book_that_comes_up_goes_on_alike(self):
        words = PEOPLE_DEEDS * 2 + ["leave", "carry", "carry", "carry", "carry", "double", "lose", "mend"]
        for seed in range(60):
            draw = random.Random(seed)
            one, other = Town(["home", "away"]), Town(["home", "away"])
            people = people_of(one.houses(), ["ann", "bob", "zoe"])
            for deed in draw_deeds(draw, one, people, words, 80):
                do_in_town(other, deed)
                if draw.random() < 0.3:
                    house = draw.choice(other.houses())
                    other.fall(house)
                    other.come_up(house)
                self.assertEqual(told_by_town(other), told_by_town(one))
            for person in people:
                self.assertEqual(refusal_class(other.leave, person), refusal_class(one.leave, person))


class TestSlip(unittest.TestCase):
    def assert_slipped(self, town, ahead, house):
        """The house is down; of what was done by the slip no letter went."""
        self.assertEqual(town.is_up(house), False)
        self.assertEqual(town.road(), ahead[1])

    def assert_still_to_slip(self, town, house):
        """The house is up, and its next deed ends the slip."""
        self.assertEqual(town.is_up(house), True)
        road = town.road()
        town.bar(f"new@{house}", "other@home" if house == "away" else "other@away")
        self.assertEqual(town.is_up(house), False)
        self.assertEqual(town.road(), road)

    def assert_not_to_slip(self, town, house):
        self.assertEqual(town.is_up(house), True)
        road = town.road()
        town.bar(f"new@{house}", "other@home" if house == "away" else "other@away")
        self.assertEqual(town.is_up(house), True)
        self.assertEqual(len(town.road()), len(road) + 1)

    def test_told_it_is_up_still(self):
        town = busy_town()
        ahead = told_by_town(town)
        self.assertIsNone(town.slip("home"))
        self.assertEqual(told_by_town(town), ahead)
        self.assertIs(refusal_class(town.come_up, "home"), Standing)
        self.assert_still_to_slip(town, "home")

    def test_by_an_own_deed(self):
        deeds = [
            ("ask", ANN, YAN, (ANN, YAN, 1, NONE)), ("take_back", ANN, ZOE, (ANN, ZOE, 2, (1, "lets", 1))),
            ("bar", ANN, ZOE, (ZOE, ANN, 0, (1, "bars", 0))),
        ]
        for deed, doer, other, row in deeds:
            town = busy_town()
            town.slip("home")
            ahead = told_by_town(town)
            getattr(town, deed)(doer, other)
            self.assert_slipped(town, ahead, "home")
            self.assertIn(row, town.rows("home"))
            self.assertEqual(len(town.lines("home")), len(ahead[2][0][3]) + 1)
            town.come_up("home")
            self.assertIn(row, town.rows("home"))
            self.assert_not_to_slip(town, "home")

    def test_by_each_deed_of_the_second_one(self):
        for deed, word, ahead_deeds in [("let", "lets", []), ("refuse", "refuses", []), ("unbar", "open", ["bar"])]:
            town = Town(["home", "away"])
            town.ask(ANN, ZOE)
            carry_road(town)
            for other in ahead_deeds:
                getattr(town, other)(ZOE, ANN)
            carry_road(town)
            town.slip("away")
            getattr(town, deed)(ZOE, ANN)
            self.assertEqual((town.is_up("away"), town.road()), (False, []))
            self.assertEqual(town.settled(ANN, ZOE)[1][1], word)

    def test_by_a_deed_between_people_of_the_house(self):
        town = busy_town()
        town.slip("home")
        ahead = told_by_town(town)
        town.ask(ANN, BOB)
        self.assert_slipped(town, ahead, "home")
        self.assertIn((ANN, BOB, 1, NONE), town.rows("home"))

    def test_by_a_letter(self):
        town = busy_town()
        town.slip("home")
        ahead = told_by_town(town)
        town.carry(1)
        self.assertEqual(town.is_up("home"), False)
        self.assertEqual(town.road(), ahead[1][:1])
        self.assertIn((ANN, YAN, 0, (1, "bars", 0)), town.rows("home"))
        self.assertEqual(town.lines("home")[-1], "answer ann@home yan@away 1 bars 0")

    def test_by_a_letter_of_which_a_letter_comes(self):
        town = busy_town()
        town.leave(YAN)
        town.slip("away")
        town.carry(0)
        self.assertEqual(town.is_up("away"), False)
        self.assertEqual(town.lines("away")[-2:], [
            "wish bob@home yan@away 1", "answer bob@home yan@away 1 gone 0",
        ])
        self.assertNotIn(("answer", BOB, YAN, 1, "gone", 0), town.road())
        town.come_up("away")
        self.assertEqual(town.settled(BOB, YAN), (1, (1, "gone", 0)))
        self.assertEqual(town.state(BOB, YAN), "asked")

    def test_not_by_a_letter_of_which_nothing_becomes(self):
        town = busy_town()
        town.double(0)
        town.carry(0)
        town.slip("away")
        ahead = told_by_town(town)
        town.carry(1)
        self.assertEqual(told_by_town(town)[2], ahead[2])
        self.assert_still_to_slip(town, "away")

    def test_not_by_a_letter_to_the_other_house(self):
        town = busy_town()
        town.slip("home")
        town.carry(0)
        town.lose(0)
        self.assert_still_to_slip(town, "home")

    def test_not_by_a_deed_of_the_other_house(self):
        town = busy_town()
        town.slip("home")
        road = town.road()
        town.refuse(ZOE, BOB)
        self.assertEqual(len(town.road()), len(road) + 1)
        self.assert_still_to_slip(town, "home")

    def test_not_by_a_mending(self):
        for house in ("home", "away"):
            town = busy_town()
            town.slip(house)
            road = town.road()
            self.assertEqual(town.mend("home", "away"), 2)
            self.assertEqual(len(town.road()), len(road) + 2)
            self.assert_still_to_slip(town, house)

    def test_not_by_a_deed_that_is_refused(self):
        town = busy_town()
        town.leave("old@home")
        town.slip("home")
        ahead = told_by_town(town)
        self.assertIs(refusal_class(town.ask, ANN, ZOE), Wrong)
        self.assertIs(refusal_class(town.leave, "old@home"), Gone)
        self.assertIs(refusal_class(town.ask, ANN, "x@far"), NoHouse)
        self.assertEqual(told_by_town(town), ahead)
        self.assert_still_to_slip(town, "home")

    def test_not_by_what_is_asked(self):
        town = busy_town()
        town.slip("home")
        told_of_people(town)
        self.assert_still_to_slip(town, "home")

    def test_told_twice_is_told_once(self):
        town = busy_town()
        self.assertIsNone(town.slip("home"))
        self.assertIsNone(town.slip("home"))
        town.ask(ANN, YAN)
        self.assertEqual(town.is_up("home"), False)
        town.come_up("home")
        self.assert_not_to_slip(town, "home")

    def test_of_a_house_that_is_down(self):
        town = busy_town()
        town.fall("home")
        self.assertIs(refusal_class(town.slip, "home"), Fallen)
        town.come_up("home")
        self.assert_not_to_slip(town, "home")

    def test_behind_a_slip_it_is_down_as_by_a_fall(self):
        town = busy_town()
        town.slip("home")
        town.ask(ANN, YAN)
        for call in (town.fall, town.slip):
            self.assertIs(refusal_class(call, "home"), Fallen)
        self.assertIs(refusal_class(town.ask, ANN, "x@away"), Fallen)
        self.assertIs(refusal_class(town.mend, "home", "away"), Fallen)

    def test_a_fall_ahead_ends_it(self):
        town = busy_town()
        town.slip("home")
        town.fall("home")
        town.come_up("home")
        self.assert_not_to_slip(town, "home")

    def test_both_houses(self):
        town = busy_town()
        town.slip("home")
        town.slip("away")
        town.carry(0)
        self.assertEqual((town.is_up("home"), town.is_up("away")), (True, False))
        town.carry(0)
        self.assertEqual((town.is_up("home"), town.is_up("away")), (False, False))

    def test_a_leaving_is_written_whole(self):
        town = busy_town()
        town.slip("away")
        ahead = told_by_town(town)
        town.leave(ZOE, YAN)
        self.assert_slipped(town, ahead, "away")
        wanted = [
            "left zoe@away yan@away", "answer ann@home zoe@away 2 moved yan@away",
            "answer bob@home zoe@away 1 moved yan@away",
        ]
        self.assertEqual(town.lines("away"), ahead[2][1][3] + wanted)
        town.come_up("away")
        self.assertEqual(town.settled(ANN, ZOE), (1, (2, "moved", YAN)))
        self.assertIs(refusal_class(town.let, ZOE, BOB), Gone)

    def test_a_leaving_without_rows(self):
        town = busy_town()
        town.slip("home")
        town.leave("new@home")
        self.assertEqual(town.is_up("home"), False)
        town.come_up("home")
        self.assertIs(refusal_class(town.leave, "new@home"), Gone)

    def test_a_mending_brings_what_the_slip_kept_back(self):
        town = busy_town()
        town.slip("home")
        town.take_back(ANN, ZOE)
        town.come_up("home")
        carry_road(town)
        self.assertIs(town.agree("home", "away"), False)
        self.assertEqual(town.mend("home", "away"), 1)
        self.assertEqual(town.road(), [("wish", ANN, ZOE, 2)])
        carry_road(town)
        self.assertIs(town.agree("home", "away"), True)


if __name__ == "__main__":
    unittest.main()
