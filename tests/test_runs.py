"""Deeds of a town as tuples, replayed (points 2, 3 and 26)."""

import random
import unittest

from bothbooks.errors import NoDeed, NoHouse
from bothbooks.runs import replay
from bothbooks.town import Town
from making import (
    ANN, BOB, NONE, TOM, TOWN_DEEDS, YAN, ZOE, do_in_town, draw_deeds, people_of, refusal, refusal_class, told_by_town,
)

HOUSES = ["home", "away"]
# Each of the fourteen deeds, where it can be done.
LONG_RUN = [
    ("ask", ANN, ZOE), ("carry", 0), ("let", ZOE, ANN), ("double", 0), ("carry", 1), ("lose", 0),
    ("refuse", ZOE, ANN), ("bar", ZOE, ANN), ("unbar", ZOE, ANN), ("back", ANN, ZOE), ("slip", "home"),
    ("ask", BOB, YAN), ("up", "home"), ("fall", "away"), ("up", "away"), ("mend", "home", "away"),
    ("leave", ZOE, TOM), ("leave", BOB, None),
]


def at_of(houses, deeds):
    error = refusal(replay, houses, deeds)
    return None if error is None else (type(error), vars(error))


class TestReplay(unittest.TestCase):
    def test_no_deeds(self):
        for houses in [["home"], HOUSES, ["c", "b", "a"], ["d", "c", "b", "a"]]:
            town = replay(houses, [])
            self.assertIs(type(town), Town)
            self.assertEqual(told_by_town(town), told_by_town(Town(houses)))

    def test_each_of_the_fourteen_deeds(self):
        self.assertEqual({deed[0] for deed in LONG_RUN}, set(TOWN_DEEDS))
        town = Town(HOUSES)
        for many, deed in enumerate(LONG_RUN, 1):
            do_in_town(town, deed)
            self.assertEqual(told_by_town(replay(HOUSES, LONG_RUN[:many])), told_by_town(town))

    def test_where_it_leads(self):
        town = replay(HOUSES, LONG_RUN)
        self.assertEqual(town.rows("home"), [(ANN, ZOE, 2, (1, "lets", 1)), (BOB, YAN, 2, NONE)])
        self.assertEqual(town.rows("away"), [(ANN, ZOE, 1, (5, "moved", TOM))])
        self.assertEqual(town.lines("home")[-2:], ["left bob@home -", "wish bob@home yan@away 2"])

    def test_each_deed_is_the_one_of_its_word(self):
        cases = {
            "ask": ([], (ANN, ZOE), (1, NONE)),
            "back": ([("ask", ANN, ZOE)], (ANN, ZOE), (2, NONE)),
            "let": ([("ask", ANN, ZOE), ("carry", 0)], (ZOE, ANN), (1, (1, "lets", 1))),
            "refuse": ([("ask", ANN, ZOE), ("carry", 0)], (ZOE, ANN), (1, (1, "refuses", 1))),
            "bar": ([], (ZOE, ANN), (0, (1, "bars", 0))),
            "unbar": ([("bar", ZOE, ANN)], (ZOE, ANN), (0, (2, "open", 0))),
        }
        for word, (ahead, people, settled) in cases.items():
            self.assertEqual(replay(HOUSES, ahead + [(word,) + people]).settled(ANN, ZOE), settled)
        ahead = [("ask", ANN, ZOE), ("ask", BOB, ZOE)]
        first, second = ("wish", ANN, ZOE, 1), ("wish", BOB, ZOE, 1)
        for word, road in [("carry", [first]), ("lose", [first]), ("double", [first, second, second])]:
            town = replay(HOUSES, ahead + [(word, 1)])
            self.assertEqual(town.road(), road)
            self.assertEqual(town.rows("away"), [(BOB, ZOE, 1, NONE)] if word == "carry" else [])
        town = replay(HOUSES, ahead + [("lose", 0), ("mend", "away", "home")])
        self.assertEqual(town.road(), [second, first, second])
        self.assertEqual(replay(HOUSES, [("fall", "away")]).is_up("away"), False)
        self.assertEqual(replay(HOUSES, [("fall", "away"), ("up", "away")]).is_up("away"), True)
        self.assertEqual(replay(HOUSES, [("slip", "home")]).is_up("home"), True)
        self.assertEqual(replay(HOUSES, [("slip", "home"), ("ask", ANN, BOB)]).is_up("home"), False)

    def test_leaving_to_nobody_and_to_somebody(self):
        for other, line in [(None, "left ann@home -"), (BOB, "left ann@home bob@home"), ("x@far", "left ann@home x@far")]:
            self.assertEqual(replay(HOUSES, [("leave", ANN, other)]).lines("home"), [line])

    def test_drawn_runs(self):
        words = list(TOWN_DEEDS) + ["ask", "carry", "let", "bar", "up"] * 3
        for seed in range(40):
            draw = random.Random(seed)
            houses = ["home", "away", "third", "b"][: draw.randint(1, 4)]
            town = Town(houses)
            deeds = list(draw_deeds(draw, town, people_of(houses, ["ann", "bob", "zoe"]), words, 100))
            self.assertEqual(told_by_town(replay(houses, deeds)), told_by_town(town))

    def test_many_deeds(self):
        deeds = [("ask", ANN, ZOE), ("back", ANN, ZOE)] * 300
        self.assertEqual(replay(HOUSES, deeds).rows("home"), [(ANN, ZOE, 600, NONE)])

    def test_the_lists_are_neither_changed_nor_kept(self):
        houses, deeds = list(HOUSES), list(LONG_RUN)
        town = replay(houses, deeds)
        self.assertEqual((houses, deeds), (HOUSES, LONG_RUN))
        ahead = told_by_town(town)
        houses.clear()
        deeds.clear()
        self.assertEqual(told_by_town(town), ahead)
        self.assertEqual(told_by_town(replay(HOUSES, LONG_RUN)), ahead)

    def test_each_replay_is_a_town_by_itself(self):
        one, other = replay(HOUSES, LONG_RUN), replay(HOUSES, LONG_RUN)
        one.ask(ANN, YAN)
        self.assertEqual(told_by_town(other), told_by_town(replay(HOUSES, LONG_RUN)))


class TestNoDeed(unittest.TestCase):
    NO_DEEDS = [
        None, True, 0, "ask", "ask ann@home zoe@away", ["ask", ANN, ZOE], {}, {"ask": ANN}, (),
        (None, ANN, ZOE), (1, ANN, ZOE), (["ask"], ANN, ZOE), (("ask",), ANN, ZOE), ({}, ANN, ZOE),
        ("", ANN, ZOE), ("Ask", ANN, ZOE), ("ask ", ANN, ZOE), ("take_back", ANN, ZOE), ("follow", ANN, ZOE),
        ("come_up", "home"), ("take", ("wish", ANN, ZOE, 1)), ("state", ANN, ZOE), ("rows", "home"), ("houses",),
    ]
    # Of the right form, but the town refuses them, as it stands at first.
    REFUSED = [
        ("ask", ANN, ANN), ("ask", ANN, None), ("ask", None, None), ("ask", "ann", ZOE), ("ask", ANN, TOM),
        ("back", ANN, ZOE), ("let", ZOE, ANN), ("refuse", ZOE, ANN), ("unbar", ZOE, ANN), ("bar", ANN, [ZOE]),
        ("leave", ANN, ANN), ("leave", None, None), ("leave", TOM, None), ("leave", ANN, "-"), ("leave", ANN, 0),
        ("carry", 0), ("lose", 0), ("double", 0), ("carry", -1), ("carry", True), ("carry", "0"), ("carry", None),
        ("lose", False), ("double", []), ("fall", "third"), ("fall", None), ("fall", []), ("up", "home"),
        ("up", "third"), ("slip", "third"), ("slip", 1), ("mend", "home", "home"), ("mend", "home", "third"),
        ("mend", None, "home"), ("mend", ["home"], "away"),
    ]

    def test_what_is_none_of_them(self):
        for deed in self.NO_DEEDS + self.REFUSED:
            self.assertEqual(at_of(HOUSES, [deed]), (NoDeed, {"at": 0}), repr(deed))

    def test_a_part_more_or_less(self):
        town = Town(HOUSES)
        for at, deed in enumerate(LONG_RUN):
            for wrong in (deed[:-1], deed + (None,), deed + ("home",), deed + (0,), deed[:1]):
                self.assertEqual(at_of(HOUSES, LONG_RUN[:at] + [wrong]), (NoDeed, {"at": at}), repr(wrong))
            do_in_town(town, deed)

    def test_the_number_of_the_first_one(self):
        good = [("ask", ANN, ZOE), ("bar", BOB, ZOE), ("ask", ANN, BOB)]
        for wrong in self.NO_DEEDS + [("fall", "third"), ("ask", ANN, ZOE), ("carry", 5)]:
            for at in range(1, 4):
                deeds = good[:at] + [wrong] + good[at:]
                self.assertEqual(at_of(HOUSES, deeds), (NoDeed, {"at": at}), repr(wrong))
                self.assertEqual(at_of(HOUSES, deeds + [wrong, None]), (NoDeed, {"at": at}))
                self.assertEqual(at_of(HOUSES, deeds + [("ask", ANN, ANN)]), (NoDeed, {"at": at}))

    def test_a_deed_that_is_none_behind_one_that_is_refused(self):
        self.assertEqual(at_of(HOUSES, [("ask", ANN, ZOE), ("ask", ANN, ZOE), "none"]), (NoDeed, {"at": 1}))
        self.assertEqual(at_of(HOUSES, [("ask", ANN, ZOE), "none", ("ask", ANN, ZOE)]), (NoDeed, {"at": 1}))

    def test_refused_by_the_houses_that_there_are(self):
        self.assertEqual(at_of(["home"], [("ask", ANN, BOB), ("ask", ANN, ZOE)]), (NoDeed, {"at": 1}))
        self.assertIsNone(at_of(HOUSES, [("ask", ANN, BOB), ("ask", ANN, ZOE)]))

    def test_what_is_no_list(self):
        for deeds in [None, True, 0, 1, "", "ask", (), (("ask", ANN, ZOE),), {}, {"ask": 1}]:
            self.assertEqual(at_of(HOUSES, deeds), (NoDeed, {"at": 0}), repr(deeds))

    def test_no_house_goes_first(self):
        for houses in [None, (), [], "home", ["a", "a"], ["a", "b", "c", "d", "e"], ["Home"], [None], [["home"]]]:
            for deeds in [[], None, ["none"], [("ask", ANN, ANN)]]:
                self.assertEqual(at_of(houses, deeds), (NoHouse, {}))

    def test_a_refusal_bears_its_number_alone(self):
        self.assertNotIn("secret", repr(refusal(replay, HOUSES, [("ask", "secret", ZOE)])))
        self.assertIs(refusal_class(replay, ["secrets"], []), NoHouse)


if __name__ == "__main__":
    unittest.main()
