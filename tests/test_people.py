"""Houses and people (points 2 and 5)."""

import string
import unittest

from bothbooks.errors import BookError, NoPerson
from bothbooks.people import house_of, is_house, is_person, name_of

SMALL = string.ascii_lowercase
NAME_SIGNS = SMALL + string.digits + "-"
# Every sign that the document speaks of: from the blank to ~, and line ends.
SIGNS = [chr(number) for number in range(32, 127)] + ["\n", "\r"]

HOUSES = ["a", "z", "ab", "home", "abcde", "abcdef", "zzzzzz"]
NO_HOUSES = [
    "", "abcdefg", "abcdefgh", "A", "Home", "homE", "hOme", "a1", "1", "a-b", "-", "a_b", "a.b",
    " ", " a", "a ", "a b", "\n", "\na", "a\nb", "a\n", "abcdef\n", "a\r\n", "@", "a@", "@a", "a@b",
]
PEOPLE = [
    ("ann@home", "ann", "home"),
    ("a@b", "a", "b"),
    ("abcdefgh@abcdef", "abcdefgh", "abcdef"),
    ("12345678@a", "12345678", "a"),
    ("0@z", "0", "z"),
    ("-@a", "-", "a"),
    ("--------@a", "--------", "a"),
    ("a-1@home", "a-1", "home"),
    ("none@none", "none", "none"),
]
NO_PEOPLE = [
    "", "ann", "home", "@", "@@", "ann@", "@home", "ann@home@", "@ann@home", "ann@@home", "ann@home@home",
    "a@b@c", "abcdefghi@a", "a@abcdefg", "abcdefghi@abcdefg", "Ann@home", "aNn@home", "ann@Home", "ann@homE",
    " ann@home", "ann @home", "an n@home", "ann@ home", "ann@ho me", "ann@home ", " @a", "a@ ",
    "\nann@home", "an\nn@home", "ann\n@home", "ann@\nhome", "ann@ho\nme", "ann@home\n", "\n@a", "a@\n",
    "a@b\r\n", "ann@h1", "ann@1", "ann@-", "ann@a-b", "an_n@home", "an.n@home", "ann#home",
]
NO_TEXTS = [
    None, 0, 1, -1, 10 ** 20, True, False, [], ["a"], ["ann@home"], ["a", "@", "b"], (), ("a",), ("ann@home",),
    ("a", "@", "b"), {}, {"ann@home": 1}, {"a"}, 1.5, b"a", b"ann@home", str, object(),
]


class TestHouses(unittest.TestCase):
    def test_houses(self):
        for house in HOUSES:
            self.assertIs(is_house(house), True, house)

    def test_no_houses(self):
        for thing in NO_HOUSES + NO_TEXTS:
            self.assertIs(is_house(thing), False, repr(thing))

    def test_one_to_six_letters(self):
        for length in range(20):
            self.assertIs(is_house("q" * length), 1 <= length <= 6, length)

    def test_every_sign_at_the_front_in_the_middle_and_at_the_end(self):
        for sign in SIGNS:
            for text in (sign, sign + "ab", "a" + sign + "b", "ab" + sign):
                self.assertIs(is_house(text), sign in SMALL, repr(text))


class TestPeople(unittest.TestCase):
    def test_people(self):
        for person, name, house in PEOPLE:
            self.assertIs(is_person(person), True, person)

    def test_no_people(self):
        for thing in NO_PEOPLE + NO_TEXTS + HOUSES:
            self.assertIs(is_person(thing), False, repr(thing))

    def test_names_of_one_to_eight_signs(self):
        for length in range(20):
            self.assertIs(is_person("q" * length + "@home"), 1 <= length <= 8, length)

    def test_houses_of_one_to_six_letters(self):
        for length in range(20):
            self.assertIs(is_person("ann@" + "q" * length), 1 <= length <= 6, length)

    def test_every_sign_of_a_name_at_the_front_in_the_middle_and_at_the_end(self):
        for sign in SIGNS:
            for name in (sign, sign + "ab", "a" + sign + "b", "ab" + sign):
                self.assertIs(is_person(name + "@home"), sign in NAME_SIGNS, repr(name))

    def test_every_sign_of_a_house_at_the_front_in_the_middle_and_at_the_end(self):
        for sign in SIGNS:
            for house in (sign, sign + "ab", "a" + sign + "b", "ab" + sign):
                self.assertIs(is_person("ann@" + house), sign in SMALL, repr(house))

    def test_every_sign_between_name_and_house(self):
        for sign in SIGNS:
            self.assertIs(is_person("ann" + sign + "home"), sign == "@", repr(sign))

    def test_people_are_in_the_order_of_their_texts(self):
        people = ["-@b", "0@b", "9@b", "a-@a", "a0@a", "a@a", "a@b", "aa@a", "b@a"]
        self.assertTrue(all(is_person(person) for person in people))
        self.assertEqual(sorted(reversed(people)), people)


class TestParts(unittest.TestCase):
    def test_house_and_name(self):
        for person, name, house in PEOPLE:
            self.assertEqual(house_of(person), house)
            self.assertEqual(name_of(person), name)
            self.assertEqual(name_of(person) + "@" + house_of(person), person)

    def test_no_person_is_refused(self):
        for tell in (house_of, name_of):
            for thing in NO_PEOPLE + NO_TEXTS + HOUSES:
                with self.subTest(tell=tell.__name__, thing=thing):
                    with self.assertRaises(BookError) as taken:
                        tell(thing)
                    self.assertIs(type(taken.exception), NoPerson)

    def test_the_refusal_bears_and_keeps_nothing(self):
        thing = ["ann@home"]
        for tell in (house_of, name_of):
            with self.assertRaises(NoPerson) as taken:
                tell(thing)
            self.assertEqual(vars(taken.exception), {})
            self.assertNotIn(thing, taken.exception.args)
        self.assertEqual(thing, ["ann@home"])

    def test_asked_again_the_same_is_told(self):
        for turn in range(3):
            self.assertRaises(NoPerson, house_of, "ann")
            self.assertEqual((house_of("ann@home"), name_of("ann@home")), ("home", "ann"))
            self.assertEqual((is_house("home"), is_person("ann@home")), (True, True))


if __name__ == "__main__":
    unittest.main()
