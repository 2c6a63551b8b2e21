"""A town: its houses, and the deeds of its people (points 2, 3 and 16)."""

import unittest

from bothbooks.books import read_book
from bothbooks.errors import Fallen, Gone, NoHouse, NoPair, NoPerson, Wrong
from bothbooks.town import Town
from making import (
    ANN, BOB, CAT, FIRST_DEEDS, NONE, SECOND_DEEDS, SITUATIONS, TOM, YAN, ZOE, carry_road, do, doer_of, refusal,
    refusal_class, told, told_by_town, town_by,
)

DEEDS = FIRST_DEEDS + SECOND_DEEDS
PAIRS = [(ANN, BOB), (ANN, ZOE), (ZOE, ANN), (TOM, ZOE)]
NO_HOUSES = [None, True, 0, 1, "", "Home", "abcdefg", "h0me", "home ", ANN, [], ["home"], ("home",), {}]
NO_PERSONS = [None, True, 0, "", "ann", "ann@", "@home", "Ann@home", "ann@home ", [], [ANN], (ANN,), {}]
FAR = "ann@far"


def house_of(person):
    return person.partition("@")[2]


def copy_of(town, house):
    """A book like that of the town's house, to hold the town against."""
    return read_book(house, town.lines(house))


class TestNewTown(unittest.TestCase):
    def test_one_to_four_houses_in_the_order_handed_in(self):
        for houses in [["home"], ["home", "away"], ["c", "a", "b"], ["abcdef", "z", "b", "a"]]:
            town = Town(houses)
            self.assertEqual(town.houses(), houses)
            self.assertEqual(town.road(), [])
            for house in houses:
                self.assertIs(town.is_up(house), True)
                self.assertEqual((town.rows(house), town.lines(house)), ([], []))

    def test_no_town(self):
        wrong = [None, True, 1, "home", ("home",), {"home": 1}, [], ["a", "b", "c", "d", "e"], ["a", "a"]]
        wrong += [["a", "b", "a"], ["a", "b", "c", "c"], [["a"], ["b"]], [{}, "a"]]
        wrong += [[thing] for thing in NO_HOUSES] + [["home", thing] for thing in NO_HOUSES]
        for houses in wrong:
            self.assertIs(refusal_class(Town, houses), NoHouse, repr(houses))

    def test_a_refusal_bears_no_value(self):
        for houses in ["secret", ["secrets"], ["secret", "secret"]]:
            error = refusal(Town, houses)
            self.assertEqual(vars(error), {})
            self.assertNotIn("secret", repr(error))

    def test_the_list_of_houses_is_neither_changed_nor_kept(self):
        houses = ["home", "away"]
        town = Town(houses)
        town.ask(ANN, ZOE)
        self.assertEqual(houses, ["home", "away"])
        houses.append("third")
        houses[0] = "other"
        self.assertEqual(town.houses(), ["home", "away"])
        self.assertIs(refusal_class(town.rows, "third"), NoHouse)
        self.assertEqual(town.rows("home"), [(ANN, ZOE, 1, NONE)])

    def test_towns_keep_apart(self):
        one, other = Town(["home"]), Town(["home"])
        one.ask(ANN, BOB)
        one.fall("home")
        self.assertEqual(told_by_town(other), told_by_town(Town(["home"])))


class TestTold(unittest.TestCase):
    def test_told_lists_are_the_askers_own(self):
        town = Town(["home", "away"])
        town.ask(ANN, ZOE)
        town.bar(ZOE, BOB)
        town.carry(0)
        ahead = told_by_town(town)
        calls = [(town.houses, ()), (town.road, ()), (town.rows, ("home",)), (town.lines, ("away",))]
        calls += [(tell, (person,)) for person in (ANN, ZOE) for tell in (town.waiting, town.in_vain)]
        for tell, arguments in calls:
            first_time = tell(*arguments)
            tell(*arguments).append("more")
            tell(*arguments).clear()
            self.assertEqual(tell(*arguments), first_time)
            self.assertIsNot(tell(*arguments), tell(*arguments))
        self.assertEqual(told_by_town(town), ahead)

    def test_of_a_house_that_there_is_not(self):
        for town in (Town(["home"]), Town(["away", "home"])):
            for tell in (town.rows, town.lines, town.is_up):
                for thing in NO_HOUSES + ["third", "hom"]:
                    self.assertIs(refusal_class(tell, thing), NoHouse, repr(thing))
                error = refusal(tell, "secret")
                self.assertEqual(vars(error), {})
                self.assertNotIn("secret", repr(error))


class TestDeeds(unittest.TestCase):
    def test_each_deed_in_each_situation(self):
        done = 0
        for first, second in PAIRS:
            for name, deeds in SITUATIONS.items():
                for deed in DEEDS:
                    with self.subTest(pair=(first, second), ahead=name, deed=deed):
                        done += self.assert_like_the_book(town_by(deeds, first, second), deed, first, second)
        self.assertGreater(done, 100)

    def assert_like_the_book(self, town, deed, first, second):
        """The doer's house's book goes on as a book by itself would, all else stays; told is whether it was done."""
        home = house_of(doer_of(deed, first, second))
        book = copy_of(town, home)
        ahead = told_by_town(town)
        wanted = refusal(do, book, deed, first, second)
        if wanted is not None:
            error = refusal(do, town, deed, first, second)
            self.assertEqual((type(error), vars(error)), (type(wanted), vars(wanted)))
            self.assertEqual(told_by_town(town), ahead)
            return False
        book = copy_of(town, home)
        letters = do(book, deed, first, second)
        self.assertIsNone(do(town, deed, first, second))
        self.assertEqual(town.road(), ahead[1] + letters)
        for house, up, rows, lines in ahead[2]:
            if house == home:
                rows, lines = book.rows(), book.lines()
            self.assertEqual((town.is_up(house), town.rows(house), town.lines(house)), (up, rows, lines))
        return True

    def test_letters_go_to_the_roads_end_in_their_order(self):
        town = Town(["home", "away"])
        town.ask(ANN, ZOE)
        town.bar(ZOE, BOB)
        town.ask(ANN, BOB)
        town.take_back(ANN, ZOE)
        self.assertEqual(town.road(), [
            ("wish", ANN, ZOE, 1), ("answer", BOB, ZOE, 1, "bars", 0), ("wish", ANN, ZOE, 2),
        ])
        self.assertEqual(town.rows("home"), [(ANN, BOB, 1, NONE), (ANN, ZOE, 2, NONE)])
        self.assertEqual(town.rows("away"), [(BOB, ZOE, 0, (1, "bars", 0))])

    def test_the_letters_of_a_leaving_in_the_order_of_rows(self):
        town = Town(["home", "away", "third"])
        for person in (ZOE, TOM, YAN):
            town.ask(ANN, person)
            town.ask(person, ANN)
        carry_road(town)
        town.ask(BOB, ZOE)
        town.leave(ANN, "ann@far")
        self.assertEqual(town.road(), [
            ("wish", BOB, ZOE, 1),
            ("wish", ANN, TOM, 2), ("wish", ANN, YAN, 2), ("wish", ANN, ZOE, 2),
            ("answer", TOM, ANN, 1, "moved", "ann@far"), ("answer", YAN, ANN, 1, "moved", "ann@far"),
            ("answer", ZOE, ANN, 1, "moved", "ann@far"),
        ])

    def test_leaving(self):
        others = [None, BOB, ZOE, TOM, FAR, "x@away"]
        for other in others:
            for by_name in (False, True):
                town = town_by(["ask", "let"], ZOE, ANN)
                book = copy_of(town, "home")
                letters = book.leave(ANN, other)
                self.assertIsNone(town.leave(ANN, other=other) if by_name else town.leave(ANN, other))
                self.assertEqual(town.road(), letters)
                self.assertEqual(told(copy_of(town, "home")), told(book))
        town = town_by(["ask"], ZOE, ANN)
        self.assertIsNone(town.leave(ANN))
        self.assertEqual(town.lines("home")[-2:], ["left ann@home -", "answer zoe@away ann@home 1 gone 0"])

    def test_leaving_without_rows(self):
        town = Town(["home", "away"])
        town.leave(ANN)
        self.assertEqual((town.rows("home"), town.lines("home"), town.road()), ([], ["left ann@home -"], []))
        self.assertEqual(town.lines("away"), [])

    def test_in_a_town_of_one_house(self):
        town = Town(["home"])
        town.ask(ANN, BOB)
        town.let(BOB, ANN)
        self.assertEqual(town.rows("home"), [(ANN, BOB, 1, (1, "lets", 1))])
        self.assertEqual(town.road(), [])
        self.assertIs(refusal_class(town.ask, ANN, ZOE), NoHouse)

    def test_the_other_persons_house_may_be_down(self):
        for deed in ("ask", "bar"):
            town = Town(["home", "away"])
            town.fall("away")
            first, second = (ANN, ZOE) if deed == "ask" else (ZOE, ANN)
            do(town, deed, first, second)
            self.assertEqual(len(town.road()), 1)
            self.assertEqual(len(town.rows("home")), 1)
        town.leave(ANN, ZOE)
        self.assertEqual(len(town.road()), 2)


class TestRefusals(unittest.TestCase):
    """Where several refusals are due at once, they go in the order that point 16 tells."""

    def setUp(self):
        # home is up, and bob has left it; away is down, and yan has left it.
        self.town = Town(["home", "away"])
        self.town.leave(BOB)
        self.town.leave(YAN)
        self.town.fall("away")
        self.ahead = told_by_town(self.town)

    def tearDown(self):
        self.assertEqual(told_by_town(self.town), self.ahead)

    def assert_refused(self, wanted, doer, other):
        for deed in DEEDS:
            with self.subTest(deed=deed, doer=doer, other=other):
                error = refusal(getattr(self.town, deed), doer, other)
                self.assertIs(type(error), wanted)
                self.assertEqual(list(vars(error)), ["now"] if wanted is Wrong else [])

    def test_no_person_goes_first(self):
        for thing in NO_PERSONS:
            for other in (ANN, BOB, ZOE, YAN, FAR, thing):
                self.assert_refused(NoPerson, thing, other)
                self.assert_refused(NoPerson, other, thing)

    def test_no_pair_goes_ahead_of_no_house_fallen_and_gone(self):
        for person in (ANN, BOB, ZOE, YAN, FAR):
            self.assert_refused(NoPair, person, person)

    def test_no_house_goes_ahead_of_fallen_gone_and_wrong(self):
        for person in (ANN, BOB, ZOE, YAN, "bob@far"):
            self.assert_refused(NoHouse, person, FAR)
            self.assert_refused(NoHouse, FAR, person)

    def test_fallen_goes_ahead_of_gone_and_wrong(self):
        for doer in (ZOE, YAN):
            for other in (ANN, BOB, "zed@away"):
                self.assert_refused(Fallen, doer, other)

    def test_gone_goes_ahead_of_wrong(self):
        for other in (ANN, ZOE, YAN):
            self.assert_refused(Gone, BOB, other)

    def test_wrong(self):
        for deed in ("take_back", "let", "refuse", "unbar"):
            for other in (CAT, ZOE, YAN):
                error = refusal(getattr(self.town, deed), ANN, other)
                self.assertIs(type(error), Wrong)
                self.assertEqual(error.now, "nothing")

    def test_leaving(self):
        for thing in NO_PERSONS:
            for other in [None, ANN, FAR, thing]:
                self.assertIs(refusal_class(self.town.leave, thing, other), NoPerson)
            if thing is not None:
                for person in (ANN, BOB, YAN, FAR):
                    self.assertIs(refusal_class(self.town.leave, person, thing), NoPerson)
        for person in (ANN, BOB, ZOE, YAN, FAR):
            self.assertIs(refusal_class(self.town.leave, person, person), NoPair)
        for other in (None, ANN, ZOE, "x@far", "y@out"):
            self.assertIs(refusal_class(self.town.leave, FAR, other), NoHouse)
            self.assertIs(refusal_class(self.town.leave, "new@away", other), Fallen)
            self.assertIs(refusal_class(self.town.leave, YAN, other), Fallen)
            self.assertIs(refusal_class(self.town.leave, BOB, other), Gone)

    def test_a_refusal_bears_no_value(self):
        for doer, other in [("secret", ANN), ("x@secret", "x@secret"), ("x@secret", ANN), (ZOE, "secret@home")]:
            for deed in DEEDS + ["leave"]:
                error = refusal(getattr(self.town, deed), doer, other)
                self.assertEqual(vars(error), {})
                self.assertNotIn("secret", repr(error))


class TestWrongStays(unittest.TestCase):
    def test_letters_on_the_road_are_not_known_yet(self):
        town = Town(["home", "away"])
        town.ask(ANN, ZOE)
        error = refusal(town.let, ZOE, ANN)
        self.assertEqual((type(error), error.now), (Wrong, "nothing"))
        town.carry(0)
        town.let(ZOE, ANN)
        error = refusal(town.let, ZOE, ANN)
        self.assertEqual((type(error), error.now), (Wrong, "follows"))
        error = refusal(town.ask, ANN, ZOE)
        self.assertEqual((type(error), error.now), (Wrong, "asked"))

    def test_many_deeds(self):
        town = Town(["home", "away", "third", "b"])
        for turn in range(150):
            town.ask(ANN, ZOE)
            town.take_back(ANN, ZOE)
        self.assertEqual(town.rows("home"), [(ANN, ZOE, 300, NONE)])
        self.assertEqual(len(town.road()), 300)
        carry_road(town)
        self.assertEqual(town.rows("away"), [(ANN, ZOE, 300, NONE)])


if __name__ == "__main__":
    unittest.main()
