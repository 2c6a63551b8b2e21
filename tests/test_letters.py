"""Letters, and their texts (points 2, 12 and 30)."""

import unittest

from bothbooks.errors import NoLetter, NoText
from bothbooks.letters import from_house, is_letter, letter_text, read_letter, to_house
from making import TWENTY, refusal, refusal_class

# Each letter with the house that it is from, the one that it is to, and its text.
LETTERS = [
    (("wish", "ann@home", "bob@away", 1), "home", "away", "wish ann@home bob@away 1"),
    (("wish", "ann@home", "bob@away", 2), "home", "away", "wish ann@home bob@away 2"),
    (("wish", "bob@away", "ann@home", 10), "away", "home", "wish bob@away ann@home 10"),
    (("wish", "ann@home", "ann@away", 7), "home", "away", "wish ann@home ann@away 7"),
    (("wish", "-@a", "9@b", TWENTY), "a", "b", "wish -@a 9@b 99999999999999999999"),
    (("answer", "ann@home", "bob@away", 1, "lets", 1), "away", "home", "answer ann@home bob@away 1 lets 1"),
    (("answer", "bob@away", "ann@home", 2, "lets", 3), "home", "away", "answer bob@away ann@home 2 lets 3"),
    (("answer", "ann@home", "bob@away", 1, "refuses", TWENTY), "away", "home",
     "answer ann@home bob@away 1 refuses 99999999999999999999"),
    (("answer", "ann@home", "bob@away", TWENTY, "bars", 0), "away", "home",
     "answer ann@home bob@away 99999999999999999999 bars 0"),
    (("answer", "ann@home", "bob@away", 2, "open", 0), "away", "home", "answer ann@home bob@away 2 open 0"),
    (("answer", "ann@home", "bob@away", 1, "gone", 0), "away", "home", "answer ann@home bob@away 1 gone 0"),
    (("answer", "ann@home", "bob@away", 1, "moved", "cat@third"), "away", "home",
     "answer ann@home bob@away 1 moved cat@third"),
    (("answer", "ann@home", "bob@away", 3, "moved", "ann@home"), "away", "home",
     "answer ann@home bob@away 3 moved ann@home"),
    (("answer", "ann@home", "bob@away", 3, "moved", "-@home"), "away", "home",
     "answer ann@home bob@away 3 moved -@home"),
]

# Tuples whose words, written with blanks between, are no letter's text, either.
NO_LETTERS = [
    # People of one house, the same one twice, and what is no person.
    ("wish", "ann@home", "bob@home", 1),
    ("wish", "ann@home", "ann@home", 1),
    ("answer", "ann@home", "bob@home", 1, "lets", 1),
    ("answer", "ann@home", "ann@home", 1, "bars", 0),
    ("wish", "ann", "bob@away", 1),
    ("wish", "ann@home", "bob", 1),
    ("wish", "ann@home", "bob@Away", 1),
    ("wish", "", "bob@away", 1),
    ("wish", "ann@home", "", 1),
    ("answer", "ann@toolong", "bob@away", 1, "lets", 1),
    ("answer", "ann@home", "bob@", 1, "lets", 1),
    # Numbers.
    ("wish", "ann@home", "bob@away", 0),
    ("wish", "ann@home", "bob@away", -1),
    ("wish", "ann@home", "bob@away", "one"),
    ("wish", "ann@home", "bob@away", None),
    ("wish", "ann@home", "bob@away", True),
    ("wish", "ann@home", "bob@away", 1.5),
    ("answer", "ann@home", "bob@away", 0, "none", 0),
    ("answer", "ann@home", "bob@away", 0, "lets", 1),
    ("answer", "ann@home", "bob@away", -1, "bars", 0),
    ("answer", "ann@home", "bob@away", True, "bars", 0),
    # Answers that are none.
    ("answer", "ann@home", "bob@away", 1, "none", 0),
    ("answer", "ann@home", "bob@away", 1, "lets", 0),
    ("answer", "ann@home", "bob@away", 1, "lets", 2),
    ("answer", "ann@home", "bob@away", 1, "lets", "cat@third"),
    ("answer", "ann@home", "bob@away", 1, "refuses", 2),
    ("answer", "ann@home", "bob@away", 1, "bars", 1),
    ("answer", "ann@home", "bob@away", 1, "open", 0),
    ("answer", "ann@home", "bob@away", 2, "open", 1),
    ("answer", "ann@home", "bob@away", 1, "gone", "cat@third"),
    ("answer", "ann@home", "bob@away", 1, "gone", False),
    ("answer", "ann@home", "bob@away", 1, "moved", 0),
    ("answer", "ann@home", "bob@away", 1, "moved", "cat"),
    ("answer", "ann@home", "bob@away", 1, "moved", None),
    ("answer", "ann@home", "bob@away", 1, "moved", "-"),
    ("answer", "ann@home", "bob@away", 1, "let", 1),
    ("answer", "ann@home", "bob@away", "lets", 1, 1),
    # A part more or less, the parts of the other kind, another word.
    (),
    ("wish",),
    ("answer",),
    ("wish", "ann@home", "bob@away"),
    ("wish", "ann@home", 1),
    ("wish", "ann@home", "bob@away", 1, 1),
    ("wish", "ann@home", "bob@away", 1, "lets", 1),
    ("answer", "ann@home", "bob@away", 1),
    ("answer", "ann@home", "bob@away", 1, "lets"),
    ("answer", "ann@home", "bob@away", 1, "lets", 1, 1),
    ("answer", "ann@home", "bob@away", (1, "lets", 1)),
    ("Wish", "ann@home", "bob@away", 1),
    ("ask", "ann@home", "bob@away", 1),
    ("left", "ann@home", "bob@away", 1),
    ("lets", "ann@home", "bob@away", 1, "lets", 1),
    ("", "ann@home", "bob@away", 1),
]
# Things of which the words alone would be a letter's, and things that are no tuple.
OTHER_THINGS = [
    None, True, 0, 1, "", "wish", "wish ann@home bob@away 1", [], {}, {"wish": 1},
    ["wish", "ann@home", "bob@away", 1],
    ["answer", "ann@home", "bob@away", 1, "lets", 1],
    ("wish", "ann@home", "bob@away", "1"),
    ("answer", "ann@home", "bob@away", "1", "lets", 1),
    ("answer", "ann@home", "bob@away", 1, "lets", "1"),
    ("answer", "ann@home", "bob@away", 1, "bars", "0"),
    (["wish"], "ann@home", "bob@away", 1),
    (None, "ann@home", "bob@away", 1),
    ("wish", ["ann@home"], "bob@away", 1),
    ("wish", "ann@home", None, 1),
    ("answer", "ann@home", "bob@away", 1, ["lets"], 1),
    ("answer", "ann@home", "bob@away", 1, None, 1),
    ("answer", "ann@home", "bob@away", 1, "lets", [1]),
]


class TestLetters(unittest.TestCase):
    def test_letters_of_both_kinds(self):
        for letter, sender, taker, text in LETTERS:
            with self.subTest(letter=letter):
                self.assertIs(is_letter(letter), True)
                self.assertEqual(from_house(letter), sender)
                self.assertEqual(to_house(letter), taker)

    def test_what_is_no_letter(self):
        for thing in NO_LETTERS + OTHER_THINGS:
            with self.subTest(thing=thing):
                self.assertIs(is_letter(thing), False)
                self.assertIs(refusal_class(from_house, thing), NoLetter)
                self.assertIs(refusal_class(to_house, thing), NoLetter)

    def test_a_number_beyond_twenty_figures_is_not_refused(self):
        self.assertIs(is_letter(("wish", "ann@home", "bob@away", TWENTY + 1)), True)

    def test_asked_again_the_same_is_told(self):
        letter = ("answer", "ann@home", "bob@away", 1, "lets", 1)
        for turn in range(3):
            self.assertIs(is_letter(letter), True)
            self.assertEqual((from_house(letter), to_house(letter)), ("away", "home"))

    def test_a_thing_handed_in_stays(self):
        thing = ["wish", "ann@home", "bob@away", 1]
        is_letter(thing)
        refusal(from_house, thing)
        self.assertEqual(thing, ["wish", "ann@home", "bob@away", 1])

    def test_a_refusal_bears_no_value(self):
        thing = ("wish", "ann@secret", "bob@secret", 1)
        self.assertEqual(vars(refusal(from_house, thing)), {})
        self.assertNotIn("secret", repr(refusal(from_house, thing)))


class TestTexts(unittest.TestCase):
    def assert_refused(self, text):
        error = refusal(read_letter, text)
        self.assertIs(type(error), NoText, repr(text))
        self.assertEqual(error.row, 0)

    def test_each_letter_is_written(self):
        for letter, sender, taker, text in LETTERS:
            self.assertEqual(letter_text(letter), text)

    def test_each_text_is_read(self):
        for letter, sender, taker, text in LETTERS:
            read = read_letter(text)
            self.assertEqual(read, letter)
            self.assertEqual([type(part) for part in read], [type(part) for part in letter])

    def test_words_that_are_no_letters(self):
        for thing in NO_LETTERS:
            self.assert_refused(" ".join(str(part) for part in thing))

    def test_blanks_and_line_ends(self):
        for letter, sender, taker, text in LETTERS:
            for wrong in [
                " " + text, text + " ", text.replace(" ", "  ", 1), text.replace(" ", "\n", 1), text + "\n", "\n" + text,
                text.replace(" ", "", 1), text + "\n" + text, text + " " + text, text[:-1] + " " + text[-1],
                text.upper(), text.replace("@", " @ ", 1), "  ".join(text.split(" ")),
            ]:
                self.assert_refused(wrong)

    def test_numbers_with_noughts_ahead_or_other_signs(self):
        for number in ["0", "00", "01", "+1", "-1", "1.0", "1_0", "0x1", "x", "", "1-", "--1"]:
            self.assert_refused("wish ann@home bob@away " + number)
            self.assert_refused("answer ann@home bob@away " + number + " bars 0")
            self.assert_refused("answer ann@home bob@away 1 lets " + number)
        for at in ["00", "-0", "", "+0", "none", "-"]:
            self.assert_refused("answer ann@home bob@away 1 bars " + at)

    def test_numbers_of_twenty_and_twenty_one_figures(self):
        for number in ["1" * 20, "9" * 20, "1" + "0" * 18 + "1"]:
            self.assertEqual(read_letter("wish ann@home bob@away " + number)[3], int(number))
            self.assertEqual(read_letter("answer ann@home bob@away " + number + " bars 0")[3], int(number))
            self.assertEqual(read_letter("answer ann@home bob@away 1 lets " + number)[5], int(number))
        for number in ["1" * 21, "1" + "0" * 20, "0" + "1" * 20, "0" * 20 + "1"]:
            self.assert_refused("wish ann@home bob@away " + number)
            self.assert_refused("answer ann@home bob@away " + number + " bars 0")
            self.assert_refused("answer ann@home bob@away 1 lets " + number)

    def test_what_is_no_text(self):
        for thing in [None, True, 0, 1, [], ["wish ann@home bob@away 1"], {}, ("wish", "ann@home", "bob@away", 1)]:
            self.assert_refused(thing)

    def test_other_texts(self):
        for text in ["", " ", "\n", "wish", "left bob@away -", "ask ann@home bob@away", "book home"]:
            self.assert_refused(text)


if __name__ == "__main__":
    unittest.main()
