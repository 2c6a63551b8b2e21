"""The desk: rows of text and their answers (point 31)."""

import random
import unittest

from bothbooks.desk import Desk
from bothbooks.errors import (
    Fallen, Gone, NoHouse, NoLetter, NoPair, NoPerson, NoText, Standing, Wrong,
)
from bothbooks.judges import judged
from bothbooks.letters import letter_text
from bothbooks.sums import unlike
from bothbooks.books import read_book
from bothbooks.texts import book_text, deed_text
from bothbooks.town import Town
from making import PEOPLE_DEEDS, TOWN_DEEDS, draw_deeds, people_of, refusal

ASKED = ["road", "book home", "book away", "lines home", "lines away", "agree home away", "judge home away"]


def refused(desk, row):
    error = refusal(desk.say, row)
    return None if error is None else (type(error), vars(error))


def desk_of(*rows):
    """A desk that was told these rows, none of which is refused."""
    desk = Desk()
    for row in rows:
        desk.say(row)
    return desk


def told_by_desk(desk, houses=("home",)):
    told = [desk.say("road")]
    for house in houses:
        told += [desk.say("book " + house), desk.say("lines " + house)]
    return told


def busy_desk():
    """ann follows zoe, bob waits for zoe, and an answer to cat is on the road."""
    return desk_of(
        "town home away", "ask ann@home zoe@away", "ask bob@home zoe@away", "ask cat@home zoe@away", "carry 0",
        "carry 0", "carry 0", "let zoe@away ann@home", "carry 0", "refuse zoe@away cat@home",
    )


class TestAsItIs(unittest.TestCase):
    def test_a_town_of_the_one_house_home(self):
        desk = Desk()
        self.assertEqual(told_by_desk(desk), ["none", "book home", "none"])
        self.assertEqual(desk.say("ask ann@home bob@home"), "ok")
        self.assertEqual(desk.say("state ann@home bob@home"), "asked")
        self.assertEqual(told_by_desk(desk), [
            "none", "book home\nann@home bob@home 1 0 none 0", "wish ann@home bob@home 1",
        ])
        self.assertEqual(refused(desk, "ask ann@home zoe@away"), (NoHouse, {}))
        self.assertEqual(refused(desk, "book away"), (NoHouse, {}))

    def test_two_desks_know_nothing_of_one_another(self):
        one, other = Desk(), Desk()
        one.say("ask ann@home bob@home")
        one.say("fall home")
        self.assertEqual(told_by_desk(other), ["none", "book home", "none"])
        other.say("town a b")
        self.assertEqual(one.say("state ann@home bob@home"), "asked")


class TestTown(unittest.TestCase):
    def test_another_town(self):
        for houses in ["home", "away", "home away", "c b a", "a b c d"]:
            desk = desk_of("ask ann@home bob@home")
            self.assertEqual(desk.say("town " + houses), "ok")
            for house in houses.split(" "):
                self.assertEqual((desk.say("book " + house), desk.say("lines " + house)), ("book " + house, "none"))
            self.assertEqual(desk.say("road"), "none")

    def test_a_town_that_is_refused_leaves_the_one_that_is_kept(self):
        desk = busy_desk()
        ahead = told_by_desk(desk, ["home", "away"])
        for houses in ["Home", "home home", "a b c d e", "a b a", "abcdefg", "h0me", "ann@home", "-", "home 1"]:
            self.assertEqual(refused(desk, "town " + houses), (NoHouse, {}), houses)
            self.assertEqual(told_by_desk(desk, ["home", "away"]), ahead)
        for row in ["town", "town ", "town  home", " town home", "town home ", "town\nhome", "town home\n", "Town home"]:
            self.assertEqual(refused(desk, row), (NoText, {"row": 0}), repr(row))
            self.assertEqual(told_by_desk(desk, ["home", "away"]), ahead)

    def test_houses_in_this_order(self):
        desk = desk_of("town b a", "ask x@b y@a")
        self.assertEqual(desk.say("agree b a"), "x@b y@a")
        self.assertEqual(desk.say("mend b a"), "1")


class TestDeeds(unittest.TestCase):
    def test_each_deed(self):
        desk = desk_of("town home away")
        rows = [
            "ask ann@home zoe@away", "carry 0", "let zoe@away ann@home", "double 0", "carry 1", "lose 0",
            "refuse zoe@away ann@home", "bar zoe@away ann@home", "unbar zoe@away ann@home", "back ann@home zoe@away",
            "slip home", "ask bob@home yan@away", "up home", "fall away", "up away",
        ]
        for row in rows:
            self.assertEqual(desk.say(row), "ok", row)
        self.assertEqual(desk.say("mend home away"), "3")
        self.assertEqual(desk.say("leave zoe@away tom@third"), "ok")
        self.assertEqual(desk.say("leave bob@home -"), "ok")
        self.assertEqual(desk.say("book away"), "book away\nann@home zoe@away 1 5 moved tom@third")
        self.assertEqual(desk.say("lines home").split("\n")[-2:], ["left bob@home -", "wish bob@home yan@away 2"])

    def test_a_mending_tells_the_number_of_letters(self):
        desk = desk_of("town home away")
        self.assertEqual(desk.say("mend home away"), "0")
        desk.say("ask ann@home zoe@away")
        self.assertEqual(desk.say("mend away home"), "1")
        desk.say("bar zoe@away ann@home")
        self.assertEqual(desk.say("mend home away"), "2")
        self.assertEqual(desk.say("road"), "\n".join([
            "wish ann@home zoe@away 1", "wish ann@home zoe@away 1", "answer ann@home zoe@away 1 bars 0",
            "wish ann@home zoe@away 1", "answer ann@home zoe@away 1 bars 0",
        ]))


class TestAsked(unittest.TestCase):
    def test_state_as_the_first_ones_house_tells_it(self):
        desk = busy_desk()
        self.assertEqual(desk.say("state ann@home zoe@away"), "follows")
        self.assertEqual(desk.say("state bob@home zoe@away"), "asked")
        self.assertEqual(desk.say("state cat@home zoe@away"), "asked")
        self.assertEqual(desk.say("carry 0"), "ok")
        self.assertEqual(desk.say("state cat@home zoe@away"), "refused")
        self.assertEqual(desk.say("state zoe@away ann@home"), "nothing")
        desk.say("bar zoe@away ann@home")
        self.assertEqual(desk.say("state ann@home zoe@away"), "follows")
        desk.say("carry 0")
        self.assertEqual(desk.say("state ann@home zoe@away"), "barred")
        desk.say("leave zoe@away -")
        desk.say("carry 0")
        self.assertEqual(desk.say("state ann@home zoe@away"), "gone")

    def test_of_a_person(self):
        desk = busy_desk()
        self.assertEqual(desk.say("counts zoe@away"), "1 0 1 0")
        self.assertEqual(desk.say("followers zoe@away"), "ann@home")
        self.assertEqual(desk.say("waiting zoe@away"), "bob@home")
        self.assertEqual(desk.say("following ann@home"), "zoe@away")
        self.assertEqual(desk.say("counts cat@home"), "0 0 0 1")
        desk.say("let zoe@away bob@home")
        self.assertEqual(desk.say("followers zoe@away"), "ann@home bob@home")
        self.assertEqual(desk.say("counts zoe@away"), "2 0 0 0")
        desk.say("carry 1")
        self.assertEqual(desk.say("following bob@home"), "zoe@away")
        desk.say("ask x@home y@home")
        desk.say("ask w@home y@home")
        self.assertEqual(desk.say("waiting y@home"), "w@home x@home")

    def test_none_where_there_is_nothing_to_tell(self):
        for desk in (Desk(), desk_of("town home away")):
            for word in ("followers", "following", "waiting"):
                self.assertEqual(desk.say(word + " ann@home"), "none")
            self.assertEqual(desk.say("counts ann@home"), "0 0 0 0")
            self.assertEqual(desk.say("road"), "none")
            self.assertEqual(desk.say("lines home"), "none")
            self.assertEqual(desk.say("book home"), "book home")

    def test_road_book_and_lines(self):
        desk = busy_desk()
        self.assertEqual(desk.say("road"), "answer cat@home zoe@away 1 refuses 1")
        self.assertEqual(desk.say("book home"), "\n".join([
            "book home", "ann@home zoe@away 1 1 lets 1", "bob@home zoe@away 1 0 none 0", "cat@home zoe@away 1 0 none 0",
        ]))
        self.assertEqual(desk.say("lines away"), "\n".join([
            "wish ann@home zoe@away 1", "wish bob@home zoe@away 1", "wish cat@home zoe@away 1",
            "answer ann@home zoe@away 1 lets 1", "answer cat@home zoe@away 1 refuses 1",
        ]))

    def test_agree(self):
        desk = busy_desk()
        self.assertEqual(desk.say("agree home away"), "cat@home zoe@away")
        desk.say("ask zoe@away ann@home")
        self.assertEqual(desk.say("agree away home"), "cat@home zoe@away\nzoe@away ann@home")
        desk.say("carry 1")
        desk.say("carry 0")
        self.assertEqual(desk.say("agree home away"), "yes")
        self.assertEqual(desk.say("agree away home"), "yes")

    def test_agree_where_sums_alone_are_alike(self):
        # No pair is told by its sums then, and so there is no row.
        desk = desk_of("town home away", "bar zoe@away ann@home")
        for turn in range(31):
            desk.say(("back" if turn % 2 else "ask") + " ann@home zoe@away")
        self.assertEqual(desk.say("agree home away"), "")

    def test_judge(self):
        desk = desk_of("town home away")
        self.assertEqual(desk.say("judge home away"), "run 0")
        desk.say("ask ann@home zoe@away")
        self.assertEqual(desk.say("judge home away"), "run 1")
        desk = busy_desk()
        rows = [(f"{name}@home", "zoe@away", 1, (0, "none", 0)) for name in ("bob", "cat")]
        rows.append(("ann@home", "zoe@away", 1, (1, "lets", 1)))
        others = [("ann@home", "zoe@away", 1, (1, "lets", 1)), ("bob@home", "zoe@away", 1, (0, "none", 0))]
        others.append(("cat@home", "zoe@away", 1, (1, "refuses", 1)))
        many = len(judged("home", rows, "away", others)[1])
        self.assertEqual(desk.say("judge home away"), f"run {many}")
        self.assertEqual(desk.say("judge away home"), f"run {len(judged('away', others, 'home', rows)[1])}")
        desk = desk_of("town home away third", "ask ann@home zoe@away")
        self.assertEqual(desk.say("judge home away"), "run 1")
        self.assertEqual(desk.say("judge away third"), "run 0")
        self.assertEqual(desk.say("judge home third"), "none")
        desk.say("ask ann@home tom@third")
        self.assertEqual(desk.say("judge home away"), "none")

    def test_of_houses_that_are_down(self):
        desk = busy_desk()
        rows = ASKED + ["state cat@home zoe@away", "counts zoe@away", "followers zoe@away", "waiting zoe@away"]
        ahead = [desk.say(row) for row in rows]
        desk.say("fall away")
        desk.say("fall home")
        self.assertEqual([desk.say(row) for row in rows], ahead)

    def test_what_is_asked_changes_nothing(self):
        desk = busy_desk()
        rows = ASKED + ["state cat@home zoe@away", "counts zoe@away", "followers zoe@away", "following ann@home"]
        ahead = [desk.say(row) for row in rows]
        for turn in range(3):
            self.assertEqual([desk.say(row) for row in rows], ahead)


class TestRefused(unittest.TestCase):
    def assert_refused(self, desk, rows, wanted):
        ahead = told_by_desk(desk, ["home", "away"])
        for row in rows:
            self.assertEqual(refused(desk, row), wanted, repr(row))
            self.assertEqual(told_by_desk(desk, ["home", "away"]), ahead)

    def test_no_text(self):
        good = [
            "town home", "ask ann@home zoe@away", "leave ann@home -", "carry 0", "lose 0", "double 0", "fall home",
            "mend home away", "state ann@home zoe@away", "counts ann@home", "followers ann@home", "following ann@home",
            "waiting ann@home", "road", "book home", "lines home", "agree home away", "judge home away",
        ]
        rows = ["", " ", "\n", "none", "ok", "house home", "in_vain ann@home", "settled ann@home zoe@away", "rows home"]
        for row in good:
            words = row.split(" ")
            rows += [" " + row, row + " ", row + "\n", "\n" + row, row.upper(), "x" + row, row + "\n" + row]
            if words[0] != "town":
                rows += [row + " more", row + " 0"]
            if len(words) > 1:
                rows += [words[0], " ".join(words[:-1]) if words[0] != "town" or len(words) > 2 else "town"]
                rows += [row.replace(" ", "  ", 1), row.replace(" ", "\n", 1)]
        self.assert_refused(busy_desk(), rows, (NoText, {"row": 0}))

    def test_other_numbers(self):
        rows = [f"{word} {number}" for word in ("carry", "lose", "double")
                for number in ["00", "01", "-1", "+0", "x", "-", "0.0", "1" * 21, "ann@home"]]
        self.assert_refused(busy_desk(), rows, (NoText, {"row": 0}))

    def test_what_is_no_text(self):
        things = [None, True, 0, 1, [], ["road"], ("road",), {}, {"road": 1}]
        self.assert_refused(busy_desk(), things, (NoText, {"row": 0}))

    def test_no_letter(self):
        rows = [f"{word} {number}" for word in ("carry", "lose", "double") for number in ("1", "7", "9" * 20)]
        self.assert_refused(busy_desk(), rows, (NoLetter, {}))
        self.assert_refused(desk_of("town home away"), ["carry 0", "lose 0", "double 0"], (NoLetter, {}))

    def test_no_person_no_pair_no_house(self):
        pair_words = PEOPLE_DEEDS + ["state"]
        rows = [f"{word} ann zoe@away" for word in pair_words] + [f"{word} x@far -" for word in pair_words]
        rows += ["leave ann -", "leave x@far ann", "counts ann", "followers -", "following home", "waiting Ann@home"]
        self.assert_refused(busy_desk(), rows, (NoPerson, {}))
        rows = [f"{word} {person} {person}" for word in pair_words + ["leave"] for person in ("ann@home", "x@far")]
        self.assert_refused(busy_desk(), rows, (NoPair, {}))
        rows = [f"{word} x@far ann@home" for word in pair_words] + [f"{word} ann@home x@far" for word in pair_words]
        rows += ["leave x@far -", "counts x@far", "followers x@far", "following x@far", "waiting x@far"]
        rows += ["fall far", "up far", "slip far", "book far", "lines far", "book ann@home", "lines -", "fall 0"]
        for word in ("mend", "agree", "judge"):
            rows += [f"{word} home home", f"{word} home far", f"{word} far home", f"{word} far far", f"{word} - home"]
        self.assert_refused(busy_desk(), rows, (NoHouse, {}))

    def test_as_the_stages_tell(self):
        desk = busy_desk()
        self.assert_refused(desk, ["ask ann@home zoe@away"], (Wrong, {"now": "follows"}))
        self.assert_refused(desk, ["let zoe@away cat@home"], (Wrong, {"now": "refused"}))
        self.assert_refused(desk, ["back bob@home yan@away", "unbar zoe@away x@home"], (Wrong, {"now": "nothing"}))
        self.assert_refused(desk, ["up home"], (Standing, {}))
        desk.say("leave dan@home -")
        self.assert_refused(desk, ["leave dan@home ann@home", "ask dan@home zoe@away"], (Gone, {}))
        desk.say("fall home")
        rows = ["fall home", "slip home", "ask ann@home zoe@away", "leave dan@home -", "mend home away", "mend away home"]
        self.assert_refused(desk, rows, (Fallen, {}))

    def test_a_slip_is_not_ended_by_what_is_refused(self):
        desk = busy_desk()
        desk.say("slip home")
        self.assert_refused(desk, ["ask ann@home", "book home more"], (NoText, {"row": 0}))
        self.assertEqual(desk.say("ask ann@home yan@away"), "ok")
        self.assertEqual(refused(desk, "slip home"), (Fallen, {}))

    def test_a_refusal_bears_no_value(self):
        desk = busy_desk()
        for row in ["secret", "ask secret zoe@away", "book secret", "town secret secret"]:
            self.assertNotIn("secret", repr(refusal(desk.say, row)))


class TestLikeTheTown(unittest.TestCase):
    def test_drawn_deeds(self):
        for seed in range(40):
            draw = random.Random(seed)
            houses = ["home", "away", "third"][: draw.randint(2, 3)]
            town = Town(houses)
            desk = desk_of(" ".join(["town"] + houses))
            people = people_of(houses, ["ann", "zoe"])
            for deed in draw_deeds(draw, town, people, list(TOWN_DEEDS) + ["carry", "ask", "let", "up"] * 3, 60):
                told = desk.say(deed_text(deed))
                self.assertTrue(told.isdigit() if deed[0] == "mend" else told == "ok")
            self.assert_alike(desk, town, people)

    def assert_alike(self, desk, town, people):
        self.assertEqual(desk.say("road"), "\n".join(letter_text(letter) for letter in town.road()) or "none")
        for house in town.houses():
            self.assertEqual(desk.say("book " + house), book_text(house, town.rows(house)))
            self.assertEqual(desk.say("lines " + house), "\n".join(town.lines(house)) or "none")
            for other in town.houses():
                if house != other:
                    books = (read_book(house, town.lines(house)), read_book(other, town.lines(other)))
                    pairs = "\n".join(" ".join(pair) for pair in unlike(*books)[0])
                    self.assertEqual(desk.say(f"agree {house} {other}"), "yes" if town.agree(house, other) else pairs)
                    told = judged(house, town.rows(house), other, town.rows(other))
                    self.assertEqual(
                        desk.say(f"judge {house} {other}"), "none" if told[0] == "none" else f"run {len(told[1])}"
                    )
        for person in people:
            self.assertEqual(desk.say("counts " + person), " ".join(str(number) for number in town.counts(person)))
            for tell in ("followers", "following", "waiting"):
                self.assertEqual(desk.say(f"{tell} {person}"), " ".join(getattr(town, tell)(person)) or "none")
            for other in people:
                if person != other:
                    self.assertEqual(desk.say(f"state {person} {other}"), town.state(person, other))


if __name__ == "__main__":
    unittest.main()
