"""Wishes, answers and states (points 2, 6, 7 and 8)."""

import unittest

from bothbooks.halves import asks, is_answer, state

TWENTY_ODD = 99999999999999999999
TWENTY_EVEN = 99999999999999999998
FIRST = (0, "none", 0)

ODD_WISHES = [1, 3, 5, 11, TWENTY_ODD, 10 ** 19 + 1]
EVEN_WISHES = [2, 4, 6, 12, TWENTY_EVEN, 10 ** 19]
PEOPLE = ["ann@home", "a@b", "-@a"]
OTHERS = [
    None, True, False, -1, -2, -3, "", "0", "1", "home", "a@b@c", "ann@home ", "ann@home\n", "none", "lets",
    [], [0], [1], (), (0,), ("ann@home",), ["ann@home"], {}, 0.0, 1.0, 1.5,
]
ALL_ATS = [0] + ODD_WISHES + EVEN_WISHES + PEOPLE + OTHERS
# For each word the least number, and the values that at may have.
WORDS = {
    "lets": (1, ODD_WISHES),
    "refuses": (1, ODD_WISHES),
    "bars": (1, [0]),
    "gone": (1, [0]),
    "open": (2, [0]),
    "moved": (1, PEOPLE),
}
NUMBERS = [0, 1, 2, 3, 17, TWENTY_EVEN, TWENTY_ODD]
NO_NUMBERS = [None, True, False, -1, -2, "", "0", "1", [], [1], (), (1,), {}, 0.0, 1.0, 2.5]
NO_WORDS = [
    "", "let", "Lets", "LETS", "lets ", " lets", "lets\n", "refuse", "bar", "barred", "asked", "follows", "refused",
    "nothing", "None", "wish", "unbar", "opens", "move", None, True, False, 0, 1, [], ["lets"], ("lets",), {}, {"lets": 1},
]


def is_among(thing, things):
    """Like in, but True is not 1 and 0.0 is not 0."""
    return any(type(thing) is type(other) and thing == other for other in things)


class TestAsks(unittest.TestCase):
    def test_nought_does_not_ask(self):
        self.assertIs(asks(0), False)

    def test_odd_numbers_ask(self):
        for wish in ODD_WISHES:
            self.assertIs(asks(wish), True, wish)

    def test_even_numbers_do_not_ask(self):
        for wish in EVEN_WISHES:
            self.assertIs(asks(wish), False, wish)

    def test_turn_by_turn(self):
        self.assertEqual([asks(wish) for wish in range(6)], [False, True, False, True, False, True])


class TestAnswers(unittest.TestCase):
    def test_the_first_answer(self):
        self.assertIs(is_answer(FIRST), True)

    def test_none_stands_at_number_nought_and_at_nought_alone(self):
        for number in NUMBERS + NO_NUMBERS:
            for at in ALL_ATS:
                wanted = is_among(number, [0]) and is_among(at, [0])
                self.assertIs(is_answer((number, "none", at)), wanted, repr((number, "none", at)))

    def test_each_word_at_all_that_it_may_stand_at_and_may_not(self):
        for word, (least, ats) in WORDS.items():
            for number in NUMBERS:
                for at in ALL_ATS:
                    wanted = number >= least and is_among(at, ats)
                    self.assertIs(is_answer((number, word, at)), wanted, repr((number, word, at)))

    def test_numbers_nought_one_and_two(self):
        told = {
            word: [is_answer((number, word, ats[0])) for number in (0, 1, 2)] for word, (least, ats) in WORDS.items()
        }
        once = [False, True, True]
        self.assertEqual(told, {
            "lets": once, "refuses": once, "bars": once, "gone": once, "moved": once, "open": [False, False, True],
        })

    def test_what_is_no_number_from_nought_on(self):
        for word, (least, ats) in WORDS.items():
            for number in NO_NUMBERS:
                self.assertIs(is_answer((number, word, ats[0])), False, repr((number, word, ats[0])))

    def test_a_truth_is_no_number(self):
        for thing in [
            (False, "none", 0), (0, "none", False), (True, "lets", 1), (1, "lets", True), (True, "bars", 0),
            (1, "bars", False), (True, "gone", 0), (1, "gone", False), (2, "open", False), (True, "moved", "a@b"),
            (1, "refuses", True),
        ]:
            self.assertIs(is_answer(thing), False, repr(thing))

    def test_another_word(self):
        for word in NO_WORDS:
            for number in (0, 1, 2):
                for at in (0, 1, "a@b"):
                    self.assertIs(is_answer((number, word, at)), False, repr((number, word, at)))

    def test_tuples_of_other_lengths(self):
        for thing in [
            (), (0,), (0, "none"), (1, "lets"), ("lets", 1), (0, "none", 0, 0), (1, "lets", 1, 1), (2, "open", 0, None),
            (1, "moved", "a@b", "a@b"),
        ]:
            self.assertIs(is_answer(thing), False, repr(thing))

    def test_lists_and_other_things(self):
        for thing in [
            [], [0, "none", 0], [1, "lets", 1], [2, "open", 0], None, True, False, 0, 1, "", "abc", "none", "lets",
            {}, {0: 0, 1: "none", 2: 0}, {0, "none", 1}, "0 none 0", ((0, "none", 0),), ("none", 0, 0), 1.5, object(),
        ]:
            self.assertIs(is_answer(thing), False, repr(thing))

    def test_nothing_handed_in_is_changed(self):
        inner, outer = ["lets"], [1, "lets", 1]
        is_answer((1, inner, 1))
        is_answer(outer)
        self.assertEqual((inner, outer), (["lets"], [1, "lets", 1]))


class TestStates(unittest.TestCase):
    def test_gone_comes_ahead_of_all(self):
        for wish in [0] + ODD_WISHES + EVEN_WISHES:
            for answer in [(1, "gone", 0), (4, "gone", 0), (1, "moved", "ann@home"), (3, "moved", "a@b")]:
                self.assertEqual(state(wish, answer), "gone")

    def test_barred_comes_ahead_of_nothing(self):
        for wish in [0] + ODD_WISHES + EVEN_WISHES:
            for number in (1, 2, 3):
                self.assertEqual(state(wish, (number, "bars", 0)), "barred")

    def test_nothing_where_the_wish_does_not_ask(self):
        for wish in [0] + EVEN_WISHES:
            for answer in [FIRST, (1, "lets", 1), (1, "refuses", 1), (3, "lets", 3), (2, "open", 0)]:
                self.assertEqual(state(wish, answer), "nothing")

    def test_lets_and_refuses_at_just_this_wish(self):
        for wish in ODD_WISHES:
            for number in (1, 2, 7):
                self.assertEqual(state(wish, (number, "lets", wish)), "follows")
                self.assertEqual(state(wish, (number, "refuses", wish)), "refused")

    def test_lets_and_refuses_at_another_wish(self):
        for wish in ODD_WISHES:
            for at in ODD_WISHES:
                if at != wish:
                    self.assertEqual(state(wish, (1, "lets", at)), "asked")
                    self.assertEqual(state(wish, (1, "refuses", at)), "asked")

    def test_asked_at_open_and_none(self):
        for wish in ODD_WISHES:
            self.assertEqual(state(wish, FIRST), "asked")
            self.assertEqual(state(wish, (2, "open", 0)), "asked")
            self.assertEqual(state(wish, (9, "open", 0)), "asked")

    def test_the_answers_number_is_not_the_wish(self):
        self.assertEqual(state(1, (3, "lets", 1)), "follows")
        self.assertEqual(state(3, (3, "lets", 1)), "asked")
        self.assertEqual(state(1, (3, "refuses", 1)), "refused")
        self.assertEqual(state(3, (3, "refuses", 1)), "asked")

    def test_asked_again_the_same_is_told(self):
        answer = (1, "lets", 1)
        for turn in range(3):
            self.assertEqual(state(1, answer), "follows")
            self.assertIs(is_answer(answer), True)
            self.assertIs(asks(1), True)
        self.assertEqual(answer, (1, "lets", 1))


if __name__ == "__main__":
    unittest.main()
