"""The judge: books handed in, and whether some run leads to two of them (points 3, 4, 27 to 29)."""

import itertools
import random
import time
import unittest

from bothbooks.errors import NoBook, NoHouse
from bothbooks.judges import check_book, judged
from bothbooks.runs import replay
from bothbooks.town import Town
from making import ANN, BOB, CAT, NONE, PEOPLE_DEEDS, TOM, TWENTY, YAN, ZOE, draw_deeds, people_of, refusal
from searching import all_answers, books_of, house_of, is_of_one_house, reachable, rows_of

NO_HOUSES = [None, True, 0, "", "Home", "abcdefg", "h0me", "home ", ANN, [], ["home"], ("home",), {}]
GOOD = [
    (ANN, ZOE, 3, (2, "lets", 1)), (ZOE, ANN, 1, NONE), (ANN, BOB, 0, (1, "bars", 0)), (BOB, ANN, 2, (1, "refuses", 1)),
    (TOM, ANN, 1, (1, "moved", ZOE)), (CAT, TOM, 0, (2, "open", 0)),
]
# No row of home's book can be one of these.
NO_ROWS = [
    None, True, 0, "", "row", [], list(GOOD[0]), {}, (), GOOD[0][:3], GOOD[0] + (0,), (ANN, ZOE, 1, 1, "lets", 1),
    ("ann", ZOE, 1, NONE), (ANN, None, 1, NONE), (None, ANN, 1, NONE), ([ANN], ZOE, 1, NONE), (ANN, {}, 1, NONE),
    ("Ann@home", ZOE, 1, NONE), (ANN, ANN, 1, NONE), (ZOE, ZOE, 1, NONE), (ZOE, YAN, 1, NONE), (TOM, ZOE, 1, NONE),
    (CAT, YAN, 0, NONE), (CAT, YAN, -1, NONE), (CAT, YAN, -1, (1, "bars", 0)), (CAT, YAN, True, NONE),
    (CAT, YAN, False, (1, "bars", 0)), (CAT, YAN, "1", NONE), (CAT, YAN, None, (1, "bars", 0)), (CAT, YAN, [1], NONE),
    (CAT, YAN, 1, None), (CAT, YAN, 1, [0, "none", 0]), (CAT, YAN, 1, ()), (CAT, YAN, 1, (1, "lets")),
    (CAT, YAN, 1, (1, "lets", 2)), (CAT, YAN, 1, (1, "lets", 0)), (CAT, YAN, 1, (1, "lets", "1")),
    (CAT, YAN, 1, (1, "lets", True)), (CAT, YAN, 1, (True, "lets", 1)), (CAT, YAN, 1, ("1", "lets", 1)),
    (CAT, YAN, 1, (0, "lets", 1)), (CAT, YAN, 1, (-1, "bars", 0)), (CAT, YAN, 1, (1, "none", 0)),
    (CAT, YAN, 1, (1, "open", 0)), (CAT, YAN, 1, (1, "bars", 1)), (CAT, YAN, 1, (1, "bars", False)),
    (CAT, YAN, 1, (1, "gone", None)), (CAT, YAN, 1, (1, "moved", 0)), (CAT, YAN, 1, (1, "moved", "zoe")),
    (CAT, YAN, 1, (1, "follows", 1)), (CAT, YAN, 1, (0, "none", False)), (CAT, YAN, 1, (False, "none", 0)),
]


def refused(call, *arguments):
    error = refusal(call, *arguments)
    return None if error is None else (type(error), vars(error))


class TestCheckBook(unittest.TestCase):
    def test_books(self):
        self.assertIsNone(check_book("home", []))
        self.assertIsNone(check_book("home", GOOD))
        self.assertIsNone(check_book("away", [(ANN, ZOE, 1, NONE)]))

    def test_rows_in_any_order(self):
        for rows in itertools.permutations(GOOD[:5]):
            self.assertIsNone(check_book("home", list(rows)))

    def test_rows_that_no_run_gives_are_rows(self):
        for row in [
            (ANN, ZOE, 1, (1, "lets", 3)), (ANN, ZOE, 0, (1, "gone", 0)), (ANN, ZOE, 1, (1, "moved", ZOE)),
            (ANN, BOB, 0, (9, "lets", 9)), (TOM, ANN, TWENTY, (TWENTY, "refuses", TWENTY)), (ANN, TOM, 1, NONE),
        ]:
            self.assertIsNone(check_book("home", [row]))

    def test_forty_rows(self):
        rows = [(f"p{number}@away", ANN, number + 1, NONE) for number in range(40)]
        self.assertIsNone(check_book("home", rows))
        self.assertEqual(refused(check_book, "home", rows + [rows[7]]), (NoBook, {"at": 40}))

    def test_no_row_at_the_first_a_middle_and_the_last_place(self):
        for wrong in NO_ROWS:
            for at in (0, 1, 3, len(GOOD)):
                rows = GOOD[:at] + [wrong] + GOOD[at:]
                self.assertEqual(refused(check_book, "home", rows), (NoBook, {"at": at}), repr(wrong))

    def test_two_reasons(self):
        for wrong in NO_ROWS:
            self.assertEqual(refused(check_book, "home", [wrong, None]), (NoBook, {"at": 0}))
            self.assertEqual(refused(check_book, "home", [GOOD[0], wrong, GOOD[0]]), (NoBook, {"at": 1}))
            self.assertEqual(refused(check_book, "home", [GOOD[0], GOOD[0], wrong]), (NoBook, {"at": 1}))
            self.assertEqual(refused(check_book, "home", GOOD[:2] + [wrong, wrong]), (NoBook, {"at": 2}))

    def test_a_pair_that_stood_ahead(self):
        for at in range(1, len(GOOD) + 1):
            for again in (GOOD[0], GOOD[0][:2] + (7, NONE), GOOD[0][:2] + (0, (1, "bars", 0))):
                rows = GOOD[:at] + [again] + GOOD[at:]
                self.assertEqual(refused(check_book, "home", rows), (NoBook, {"at": at}))

    def test_the_same_people_the_other_way_about_are_another_pair(self):
        self.assertIsNone(check_book("home", [(ANN, BOB, 1, NONE), (BOB, ANN, 1, NONE)]))

    def test_a_pair_of_which_both_are_of_the_house(self):
        self.assertIsNone(check_book("home", [(ANN, BOB, 1, NONE)]))
        self.assertEqual(refused(check_book, "away", [(ANN, BOB, 1, NONE)]), (NoBook, {"at": 0}))

    def test_what_is_no_list(self):
        for rows in [None, True, 0, "", "rows", (), tuple(GOOD), {}, {1: GOOD[0]}]:
            self.assertEqual(refused(check_book, "home", rows), (NoBook, {"at": 0}), repr(rows))

    def test_no_house_goes_first(self):
        for house in NO_HOUSES:
            for rows in [[], GOOD, None, NO_ROWS, "rows"]:
                self.assertEqual(refused(check_book, house, rows), (NoHouse, {}))
        self.assertNotIn("Secret", repr(refusal(check_book, "Secret", [])))

    def test_the_list_is_not_changed(self):
        rows = list(reversed(GOOD))
        check_book("home", rows)
        self.assertEqual(rows, list(reversed(GOOD)))


class TestRefused(unittest.TestCase):
    def test_the_one_book_whole_ahead_of_the_other(self):
        row = (ANN, ZOE, 1, NONE)
        cases = [
            (("Home", [row], "away", [row]), (NoHouse, {})),
            (("Home", None, "Away", None), (NoHouse, {})),
            (("home", None, "Away", [row]), (NoBook, {"at": 0})),
            (("home", [row, row], "Away", [row]), (NoBook, {"at": 1})),
            (("home", [row, row], "away", [None]), (NoBook, {"at": 1})),
            (("home", [row, row], "home", [row]), (NoBook, {"at": 1})),
            (("home", [row], "Away", [None]), (NoHouse, {})),
            (("home", [row], "away", [row, (YAN, ZOE, 1, NONE), row]), (NoBook, {"at": 2})),
            (("home", [row], "away", None), (NoBook, {"at": 0})),
            (("home", [row], "home", [row, None]), (NoBook, {"at": 1})),
            (("home", [row], "home", [row]), (NoHouse, {})),
            (("home", [], "home", []), (NoHouse, {})),
        ]
        for arguments, wanted in cases:
            self.assertEqual(refused(judged, *arguments), wanted, arguments)

    def test_each_row_that_is_none(self):
        for wrong in NO_ROWS:
            self.assertEqual(refused(judged, "home", GOOD + [wrong], "away", []), (NoBook, {"at": len(GOOD)}))
            self.assertEqual(refused(judged, "away", [], "home", [wrong]), (NoBook, {"at": 0}))
        for house in NO_HOUSES:
            self.assertEqual(refused(judged, house, [], "home", []), (NoHouse, {}))
            self.assertEqual(refused(judged, "home", [], house, []), (NoHouse, {}))


class Judging(unittest.TestCase):
    """What is asked of each answer of the judge."""

    def assert_run(self, house, rows, other, others):
        word, deeds = judged(house, rows, other, others)
        self.assertEqual(word, "run", (rows, others))
        self.assertIs(type(deeds), list)
        for houses in ([house, other], [other, house]):
            town = replay(houses, deeds)
            self.assertEqual(town.rows(house), sorted(rows))
            self.assertEqual(town.rows(other), sorted(others))
            self.assertTrue(town.is_up(house) and town.is_up(other))

    def assert_none(self, house, rows, other, others):
        """Told are the rows, which stand in the books, or are of no turn where the book has no row."""
        word, against = judged(house, rows, other, others)
        self.assertEqual(word, "none", (rows, others))
        self.assertIs(type(against), list)
        self.assertIn(len(against), (1, 2))
        self.assertEqual(len(set(against)), len(against))
        books = {house: rows, other: others}
        for name, row in against:
            if row[2:] == (0, NONE):
                self.assertIn(name, (house_of(row[0]), house_of(row[1])))
                self.assertNotIn(row[:2], [known[:2] for known in books[name]])
            else:
                self.assertIn(row, books[name])
        return against

    def assert_none_each_way(self, rows, others):
        against = self.assert_none("home", rows, "away", others)
        self.assert_none("away", others, "home", rows)
        # What is told as given by no run isn't given without the other rows, either.
        few = {name: [row for of, row in against if of == name and row[2:] != (0, NONE)] for name in ("home", "away")}
        self.assert_none("home", few["home"], "away", few["away"])
        return against


class TestRuns(Judging):
    def test_books_of_no_rows(self):
        self.assertEqual(judged("home", [], "away", []), ("run", []))
        self.assert_run("home", [], "away", [])

    def test_by_hand(self):
        cases = [
            ([(ANN, ZOE, 1, NONE)], []),
            ([], [(ANN, ZOE, 0, (1, "bars", 0))]),
            ([(ANN, ZOE, 12, NONE)], [(ANN, ZOE, 5, (1, "refuses", 3))]),
            ([(ANN, ZOE, 4, (1, "lets", 1))], [(ANN, ZOE, 3, (4, "lets", 3))]),
            ([(ANN, ZOE, 1, (1, "lets", 1))], [(ANN, ZOE, 1, (5, "refuses", 1))]),
            ([(ANN, ZOE, 1, (1, "gone", 0))], [(ANN, ZOE, 1, (1, "gone", 0))]),
            ([(ANN, ZOE, 3, NONE)], [(ANN, ZOE, 2, (1, "moved", TOM))]),
            ([], [(ANN, ZOE, 0, (2, "gone", 0))]),
            ([(ANN, BOB, 1, (1, "gone", 0))], []),
            ([(ANN, BOB, 12, (12, "bars", 0))], []),
            ([(ANN, BOB, 3, (4, "lets", 3)), (BOB, ANN, 1, NONE)], [(YAN, ZOE, 2, (1, "lets", 1))]),
            ([(ANN, ZOE, 2, NONE), (ZOE, ANN, 1, (1, "moved", ZOE))], [(ZOE, ANN, 1, NONE), (ANN, ZOE, 1, NONE)]),
            ([(ANN, BOB, 2, (1, "gone", 0)), (BOB, ANN, 2, (1, "gone", 0))], []),
        ]
        for rows, others in cases:
            with self.subTest(rows=rows, others=others):
                self.assert_run("home", rows, "away", others)
                self.assert_run("away", others, "home", rows)

    def test_moved_at_anybody_but_itself(self):
        for other in (ANN, BOB, YAN, TOM, "x@far"):
            row = (ANN, ZOE, 1, (1, "moved", other))
            self.assert_run("home", [row], "away", [row])
            self.assert_run("home", [(BOB, CAT, 1, (1, "moved", other))], "away", [])

    def draw_books(self, seed, words, many):
        draw = random.Random(seed)
        houses = ["home", "away"]
        town = Town(houses)
        people = people_of(houses, ["ann", "bob", "zoe"][: draw.randint(1, 3)])
        for deed in draw_deeds(draw, town, people, words, many):
            pass
        books = {house: town.rows(house) for house in houses}
        for rows in books.values():
            draw.shuffle(rows)
        draw.shuffle(houses)
        return houses, books

    def test_books_of_drawn_towns(self):
        words = PEOPLE_DEEDS * 3 + ["ask", "let"] * 3 + ["leave"] + ["carry"] * 9
        words += ["lose", "lose", "double", "mend", "fall", "slip", "up", "up"]
        met = {"rows": 0, "gone": 0, "moved": 0}
        for seed in range(200):
            (house, other), books = self.draw_books(seed, words, 20 + seed)
            with self.subTest(seed=seed):
                kept = (list(books[house]), list(books[other]))
                self.assert_run(house, books[house], other, books[other])
                self.assertEqual((books[house], books[other]), kept)
            answers = [row[3][1] for row in books[house] + books[other]]
            met["rows"] += len(answers)
            met["gone"] += "gone" in answers
            met["moved"] += "moved" in answers
        self.assertGreater(met["rows"], 1000)
        self.assertGreater(min(met["gone"], met["moved"]), 20)


class TestNone(Judging):
    def test_a_copy_with_a_greater_number(self):
        cases = [
            ([(ANN, ZOE, 1, NONE)], [(ANN, ZOE, 2, NONE)]),
            ([], [(ANN, ZOE, 1, NONE)]),
            ([(ANN, ZOE, 1, (1, "lets", 1))], [(ANN, ZOE, 1, NONE)]),
            ([(ANN, ZOE, 0, (1, "bars", 0))], []),
            ([(ANN, ZOE, 0, (2, "open", 0))], [(ANN, ZOE, 0, (1, "bars", 0))]),
            ([(ZOE, ANN, 1, NONE)], []),
            ([], [(ZOE, ANN, 0, (1, "bars", 0))]),
        ]
        for rows, others in cases:
            against = self.assert_none_each_way(rows, others)
            self.assertEqual({name for name, row in against}, {"home", "away"})

    def test_a_pair_without_a_row_is_told_as_of_no_turn(self):
        row = (ANN, ZOE, 1, NONE)
        self.assertEqual(
            sorted(judged("home", [], "away", [row])[1]), [("away", row), ("home", (ANN, ZOE, 0, NONE))]
        )

    def test_the_same_number_and_another_answer(self):
        answers = [(3, "lets", 3), (3, "refuses", 3), (3, "lets", 1), (3, "bars", 0), (3, "gone", 0), (3, "moved", TOM)]
        for heard, own in itertools.permutations(answers, 2):
            self.assert_none_each_way([(ANN, ZOE, 3, heard)], [(ANN, ZOE, 3, own)])

    def test_an_answer_at_a_wish_that_is_not_known(self):
        for known, at in [(0, 1), (1, 3), (2, 3), (3, 11)]:
            for word in ("lets", "refuses"):
                rows = [(ANN, ZOE, 12, NONE)]
                self.assert_none_each_way(rows, [(ANN, ZOE, known, (2, word, at))])
                self.assert_none_each_way([(ANN, BOB, known, (2, word, at))], [])

    def test_left_at_the_first_turn_where_no_wish_is_known(self):
        for answer in [(1, "gone", 0), (1, "moved", TOM)]:
            for wish in (0, 1, 4):
                rows = [(ANN, ZOE, wish, NONE)] if wish else []
                self.assert_none_each_way(rows, [(ANN, ZOE, 0, answer)])
            self.assert_none_each_way([(ANN, BOB, 0, answer)], [])
            self.assert_none_each_way([(ANN, ZOE, 1, answer)], [(ANN, ZOE, 0, answer)])

    def test_a_wish_that_asks_by_one_who_has_left(self):
        for answer in [(1, "gone", 0), (2, "moved", TOM)]:
            left = (BOB, ANN, 1, answer)
            for asking in [(ANN, ZOE, 1, NONE), (ANN, BOB, 3, NONE), (ANN, ZOE, 5, NONE)]:
                against = self.assert_none_each_way([left, asking], [])
                self.assertEqual(sorted(against), sorted([("home", left), ("home", asking)]))
            self.assert_run("home", [left, (ANN, ZOE, 2, NONE)], "away", [(ANN, ZOE, 1, NONE)])

    def test_some_say_that_it_left_and_others_do_not_or_otherwise(self):
        answers = [(2, "gone", 0), (2, "moved", TOM), (2, "moved", CAT), (1, "bars", 0), (1, "lets", 1), NONE]
        for one, other in itertools.permutations(answers, 2):
            rows = [(BOB, ANN, 1, one), (CAT, ANN, 1, other)]
            if {one[1], other[1]} & {"gone", "moved"}:
                against = self.assert_none_each_way(rows, [])
                self.assertEqual(sorted(against), [("home", rows[0]), ("home", rows[1])])
            else:
                self.assert_run("home", rows, "away", [])
        rows = [(BOB, ANN, 1, (1, "gone", 0)), (ZOE, ANN, 1, NONE)]
        self.assert_none_each_way(rows, [(ZOE, ANN, 1, NONE)])

    def test_a_copy_may_not_know_that_one_has_left(self):
        home = [(ANN, ZOE, 1, (1, "lets", 1)), (BOB, ZOE, 1, (2, "gone", 0))]
        away = [(ANN, ZOE, 1, (2, "gone", 0)), (BOB, ZOE, 1, (2, "gone", 0))]
        self.assert_run("home", home, "away", away)

    def test_moved_at_itself(self):
        row = (ANN, ZOE, 1, (1, "moved", ZOE))
        self.assert_none_each_way([row], [row])
        self.assert_none_each_way([], [(ANN, ZOE, 0, (2, "moved", ZOE))])
        self.assertEqual(self.assert_none_each_way([(ANN, BOB, 1, (1, "moved", BOB))], []), [
            ("home", (ANN, BOB, 1, (1, "moved", BOB))),
        ])
        self.assert_none_each_way([row], [(ANN, ZOE, 1, (2, "gone", 0))])

    def test_what_no_row_of_turns_leads_to(self):
        cases = [
            # The second let of one ask with nothing between.
            (1, (1, "lets", 1), (2, "lets", 1)), (2, (1, "lets", 1), (2, "lets", 1)), (1, NONE, (2, "lets", 1)),
            (1, (1, "refuses", 1), (2, "lets", 1)), (1, (1, "refuses", 1), (2, "refuses", 1)),
            (3, (1, "lets", 3), (2, "lets", 1)), (3, (1, "refuses", 3), (2, "lets", 3)),
            # An open behind what is no bars.
            (1, (1, "lets", 1), (2, "open", 0)), (1, (1, "refuses", 1), (2, "open", 0)),
            (1, (2, "open", 0), (3, "open", 0)), (0, NONE, (3, "open", 0)), (1, (2, "lets", 3), (3, "open", 0)),
            # Bars behind bars, and what is let behind a bar.
            (1, (1, "bars", 0), (2, "bars", 0)), (0, NONE, (2, "bars", 0)), (1, (1, "bars", 0), (2, "lets", 1)),
            # An answer behind a leaving.
            (1, (1, "gone", 0), (2, "gone", 0)), (1, (1, "gone", 0), (2, "bars", 0)), (1, (1, "moved", TOM), (2, "lets", 1)),
        ]
        for known, heard, said in cases:
            with self.subTest(known=known, heard=heard, said=said):
                others = [(ANN, ZOE, known, said)]
                rows = [(ANN, ZOE, 12, heard)]
                against = self.assert_none_each_way(rows, others)
                self.assertTrue({name for name, row in against} <= {"home", "away"})

    def test_what_some_row_of_turns_leads_to(self):
        cases = [
            (1, (1, "lets", 1), (2, "refuses", 1)), (1, (1, "lets", 1), (4, "lets", 1)), (1, (2, "open", 0), (3, "lets", 1)),
            (3, (1, "lets", 1), (2, "lets", 3)), (3, (1, "refuses", 1), (2, "bars", 0)), (1, (1, "bars", 0), (2, "gone", 0)),
            (1, NONE, (2, "bars", 0)), (1, (1, "lets", 1), (3, "bars", 0)), (0, NONE, (4, "open", 0)),
            (1, (3, "bars", 0), (4, "open", 0)), (1, NONE, (3, "open", 0)), (12, (11, "refuses", 11), (12, "bars", 0)),
        ]
        for known, heard, said in cases:
            with self.subTest(known=known, heard=heard, said=said):
                self.assert_run("home", [(ANN, ZOE, 12, heard)], "away", [(ANN, ZOE, known, said)])

    def test_people_of_third_houses(self):
        for row in [(ANN, TOM, 1, NONE), (TOM, ANN, 0, (1, "bars", 0)), (TOM, ANN, 1, (1, "lets", 1))]:
            self.assertEqual(judged("home", [row], "away", []), ("none", [("home", row)]))
            good = [(ANN, BOB, 1, NONE), (ANN, ZOE, 1, NONE)]
            self.assertEqual(judged("home", good + [row], "away", []), ("none", [("home", row)]))
            self.assertEqual(judged("away", [], "home", [row] + good), ("none", [("home", row)]))
        row = (ZOE, "x@far", 1, NONE)
        self.assertEqual(judged("home", [(ANN, ZOE, 1, NONE)], "away", [row]), ("none", [("away", row)]))

    def test_pairs_of_one_house(self):
        for row in [(ANN, BOB, 1, (1, "lets", 3)), (ANN, BOB, 1, (2, "lets", 1)), (ANN, BOB, 0, (2, "bars", 0))]:
            self.assertEqual(judged("home", [row, (BOB, ANN, 1, NONE)], "away", []), ("none", [("home", row)]))

    def test_one_thing_changed_in_books_of_a_run(self):
        """Told as of a run the deeds lead there; told as of none the rows told stand in the books."""
        words = PEOPLE_DEEDS * 2 + ["ask", "let"] * 2 + ["leave"] + ["carry"] * 6 + ["lose"]
        met = {"run": 0, "none": 0}
        for seed in range(300):
            draw = random.Random(seed)
            town = Town(["home", "away"])
            people = people_of(["home", "away"], ["ann", "bob"])
            for deed in draw_deeds(draw, town, people, words, 40):
                pass
            books = {house: town.rows(house) for house in town.houses()}
            house = draw.choice([house for house in books if books[house]])
            place = draw.randrange(len(books[house]))
            first, second, wish, answer = books[house].pop(place)
            if draw.random() < 0.8:
                if draw.random() < 0.5:
                    wish = draw.randint(0, 4)
                else:
                    answer = draw.choice(all_answers(5, 4, [None, TOM, first, second]))
                if wish or answer[0]:
                    books[house].append((first, second, wish, answer))
            word = judged("home", books["home"], "away", books["away"])[0]
            met[word] += 1
            if word == "run":
                self.assert_run("home", books["home"], "away", books["away"])
            else:
                self.assert_none_each_way(books["home"], books["away"])
        self.assertGreater(min(met.values()), 50)


class TestSearched(Judging):
    """Each answer of the judge is held against all that the search in searching.py finds."""

    def assert_judged(self, pairs, found, runs):
        books = books_of(pairs, found)
        if found in runs:
            self.assert_run("home", books["home"], "away", books["away"])
            return []
        return self.assert_none("home", books["home"], "away", books["away"])

    def go_through(self, pairs, most_wish, most_number, others, fitting):
        runs = reachable(pairs, most_wish, most_number, others)
        answers = all_answers(most_wish, most_number, others)
        halves = []
        for pair in pairs:
            wishes = range(most_wish + 1)
            if is_of_one_house(pair):
                halves.append([(wish, answer, wish, answer) for wish in wishes for answer in answers])
            else:
                halves.append([part for part in itertools.product(wishes, answers, wishes, answers) if fitting(part)])
        told = set()
        for found in itertools.product(*halves):
            told.add(frozenset(self.assert_judged(pairs, found, runs)))
        told.discard(frozenset())
        given = [rows_of(pairs, found) for found in runs]
        for against in told:
            self.assertFalse(any(against <= rows for rows in given), against)
        self.assertTrue(runs and told)

    def test_one_pair_of_two_houses(self):
        self.go_through([(ANN, ZOE)], 3, 2, [None, TOM, ANN], lambda part: True)

    def test_one_pair_of_two_houses_with_more_answers(self):
        # Copies that are greater were gone through above.
        self.go_through([(ANN, ZOE)], 3, 4, [None], lambda part: part[0] >= part[2] and part[1][0] <= part[3][0])

    def test_one_pair_of_one_house(self):
        self.go_through([(ANN, BOB)], 5, 5, [None, TOM, ANN], None)

    def test_two_pairs_of_one_house(self):
        self.go_through([(ANN, BOB), (BOB, ANN)], 2, 2, [None, TOM], None)
        self.go_through([(ANN, BOB), (CAT, BOB)], 2, 2, [None, CAT], None)

    def test_two_pairs_of_one_house_and_of_two(self):
        for pair in [(BOB, ZOE), (ZOE, BOB)]:
            self.go_through([(ANN, BOB), pair], 1, 2, [None], lambda part: part[1][0] <= part[3][0])

    def test_two_pairs_of_two_houses(self):
        for pair in [(ZOE, ANN), (BOB, ZOE)]:
            self.go_through(
                [(ANN, ZOE), pair], 1, 1, [None, TOM], lambda part: part[0] >= part[2] and part[1][0] <= part[3][0]
            )


class TestBounds(Judging):
    def test_twelve_rows_with_numbers_to_twelve(self):
        people = people_of(["home", "away"], ["a", "b", "c", "d", "e", "f"])
        start = time.monotonic()
        for word, at in [("lets", 11), ("refuses", 11), ("bars", 0), ("open", 0)]:
            pairs = [(first, second) for first in people[:3] for second in people[6:8]]
            pairs += [(second, first) for first, second in pairs]
            rows = [pair + (12, (12, word, at)) for pair in pairs]
            self.assertEqual(len(rows), 12)
            self.assert_run("home", rows, "away", rows)
            own = [(first, second, 12, (12, word, at)) for first in people[:4] for second in people[:4] if first != second]
            self.assertEqual(len(own), 12)
            self.assert_run("home", own, "away", [])
            wrong = rows[:-1] + [rows[-1][:2] + (12, (11, "open", 0))]
            self.assert_none("home", wrong, "away", rows[:-1] + [rows[-1][:2] + (12, (12, "open", 0))])
        self.assertLess(time.monotonic() - start, 60)

    def test_numbers_beyond(self):
        rows = [(ANN, ZOE, 60, (59, "lets", 59)), (ANN, BOB, 60, (60, "bars", 0))]
        self.assert_run("home", rows, "away", [(ANN, ZOE, 60, (60, "refuses", 59))])

    def test_many_rows(self):
        rows = [(f"p{number}@home", ZOE, 3, (2, "refuses", 1)) for number in range(40)]
        self.assert_run("home", rows, "away", rows)


class TestNothingChanges(Judging):
    def test_what_is_handed_in_is_neither_changed_nor_kept(self):
        rows = [(ANN, ZOE, 3, (1, "lets", 1)), (ANN, BOB, 1, NONE)]
        others = [(ANN, ZOE, 1, (1, "lets", 1))]
        kept = (list(rows), list(others))
        told = judged("home", rows, "away", others)
        self.assertEqual((rows, others), kept)
        ahead = list(told[1])
        rows.clear()
        others.clear()
        self.assertEqual(told[1], ahead)
        told[1].clear()
        self.assertEqual(judged("home", kept[0], "away", kept[1]), ("run", ahead))
        against = judged("home", [], "away", kept[1])
        against[1].clear()
        self.assertEqual(len(judged("home", [], "away", kept[1])[1]), 2)


if __name__ == "__main__":
    unittest.main()
