"""Deeds and books, written and read (point 30)."""

import unittest

from bothbooks.errors import NoText
from bothbooks.judges import check_book
from bothbooks.texts import book_text, deed_text, read_book_text, read_deed
from making import ANN, BOB, CAT, NONE, TOM, TOWN_DEEDS, TWENTY, YAN, ZOE, refusal

DEEDS = {
    "ask ann@home zoe@away": ("ask", ANN, ZOE),
    "back ann@home zoe@away": ("back", ANN, ZOE),
    "let zoe@away ann@home": ("let", ZOE, ANN),
    "refuse zoe@away ann@home": ("refuse", ZOE, ANN),
    "bar zoe@away ann@home": ("bar", ZOE, ANN),
    "unbar zoe@away ann@home": ("unbar", ZOE, ANN),
    "leave ann@home tom@third": ("leave", ANN, TOM),
    "leave ann@home -": ("leave", ANN, None),
    "carry 0": ("carry", 0),
    "carry 10": ("carry", 10),
    "lose 7": ("lose", 7),
    "double 99999999999999999999": ("double", TWENTY),
    "fall home": ("fall", "home"),
    "up away": ("up", "away"),
    "slip home": ("slip", "home"),
    "mend home away": ("mend", "home", "away"),
}
NO_TEXTS = [None, True, False, 0, 1, [], ["ask", ANN, ZOE], ("ask", ANN, ZOE), {}]
ROWS = [
    (ANN, BOB, 1, NONE), (ANN, ZOE, 12, (3, "refuses", 11)), (BOB, ANN, 0, (1, "bars", 0)),
    (CAT, YAN, 2, (2, "open", 0)), (YAN, CAT, 3, (1, "lets", 3)), (ZOE, ANN, 1, (4, "gone", 0)),
    (ZOE, BOB, TWENTY, (TWENTY, "moved", TOM)),
]
BOOK = "\n".join([
    "book home",
    "ann@home bob@home 1 0 none 0",
    "ann@home zoe@away 12 3 refuses 11",
    "bob@home ann@home 0 1 bars 0",
    "cat@home yan@away 2 2 open 0",
    "yan@away cat@home 3 1 lets 3",
    "zoe@away ann@home 1 4 gone 0",
    "zoe@away bob@home 99999999999999999999 99999999999999999999 moved tom@third",
])


def refused(call, *arguments):
    error = refusal(call, *arguments)
    return None if error is None else (type(error), vars(error))


class TestDeeds(unittest.TestCase):
    def test_each_deed_written_and_read_again(self):
        self.assertEqual({deed[0] for deed in DEEDS.values()}, set(TOWN_DEEDS))
        for text, deed in DEEDS.items():
            self.assertEqual(deed_text(deed), text)
            self.assertEqual(read_deed(text), deed)
            self.assertEqual([type(part) for part in read_deed(text)], [type(part) for part in deed])

    def test_people_and_houses_are_any_words(self):
        for text, deed in {
            "ask a b": ("ask", "a", "b"), "ask ask ask": ("ask", "ask", "ask"), "let - -": ("let", "-", "-"),
            "bar 0 007": ("bar", "0", "007"), "fall 12": ("fall", "12"), "up Home!": ("up", "Home!"),
            "slip -": ("slip", "-"), "mend ~ #": ("mend", "~", "#"), "leave x y": ("leave", "x", "y"),
            "leave - -": ("leave", "-", None), "leave 1 0": ("leave", "1", "0"), "leave a --": ("leave", "a", "--"),
            "back ann@home ann@home": ("back", ANN, ANN), "mend home home": ("mend", "home", "home"),
        }.items():
            self.assertEqual(read_deed(text), deed)
            self.assertEqual(deed_text(deed), text)

    def test_numbers(self):
        for word in ("carry", "lose", "double"):
            for number in ["0", "1", "9", "10", "12345678901234567890", "9" * 20]:
                self.assertEqual(read_deed(f"{word} {number}"), (word, int(number)))
            for number in ["00", "01", "007", "-1", "-0", "+1", "1.0", "1e3", "0x1", "1_000", "one", "-", "a", "1a",
                           "9" * 21, "1" + "0" * 20, "0" * 20]:
                self.assertEqual(refused(read_deed, f"{word} {number}"), (NoText, {"row": 0}), number)

    def test_other_words_and_more_or_fewer(self):
        for text in DEEDS:
            words = text.split(" ")
            wrong = [" ".join(words[:-1]), text + " more", text + " 0", text + " -", words[0]]
            wrong += [text.upper(), text.capitalize(), "x" + text, " ".join(["take"] + words[1:])]
            for row in wrong:
                self.assertEqual(refused(read_deed, row), (NoText, {"row": 0}), row)

    def test_other_first_words(self):
        for text in ["", "take_back a b", "come_up home", "leaves a -", "town home", "state a b", "road", "wish a b 1",
                     "answer a b 1 lets 1", "book home", "- a b", "0 0", "none"]:
            self.assertEqual(refused(read_deed, text), (NoText, {"row": 0}), text)

    def test_blanks_and_line_ends(self):
        for text in DEEDS:
            wrong = [" " + text, text + " ", text.replace(" ", "  ", 1), text.replace(" ", "\n", 1), text + "\n",
                     "\n" + text, text + "\nask a b", text[:-1] + "\n" + text[-1:], text.replace(" ", " \n", 1),
                     text.replace(" ", "\n ", 1)]
            for row in wrong:
                self.assertEqual(refused(read_deed, row), (NoText, {"row": 0}), repr(row))
        for text in [" ", "  ", "\n", "ask  b", "ask a ", " a b", "ask \n b", "fall ", "fall", "leave  -"]:
            self.assertEqual(refused(read_deed, text), (NoText, {"row": 0}), repr(text))

    def test_what_is_no_text(self):
        for thing in NO_TEXTS:
            self.assertEqual(refused(read_deed, thing), (NoText, {"row": 0}), repr(thing))

    def test_a_refusal_bears_its_row_alone(self):
        self.assertNotIn("secret", repr(refusal(read_deed, "secret")))


class TestBooks(unittest.TestCase):
    def test_written_and_read_again(self):
        self.assertEqual(book_text("home", ROWS), BOOK)
        self.assertEqual(read_book_text(BOOK), ("home", ROWS))
        house, rows = read_book_text(BOOK)
        self.assertEqual([[type(part) for part in row] for row in rows], [[str, str, int, tuple]] * len(ROWS))
        self.assertIsNone(check_book(house, rows))

    def test_of_no_rows_of_one_and_of_forty(self):
        self.assertEqual(book_text("home", []), "book home")
        self.assertEqual(read_book_text("book home"), ("home", []))
        for house in ("a", "abcdef"):
            self.assertEqual(read_book_text(f"book {house}"), (house, []))
        for row in ROWS:
            self.assertEqual(read_book_text(book_text("home", [row])), ("home", [row]))
        rows = [(f"p{number}@away", ANN, number, (number, "gone", 0)) for number in range(10, 50)]
        self.assertEqual(len(rows), 40)
        self.assertEqual(book_text("home", rows).count("\n"), 40)
        self.assertEqual(read_book_text(book_text("home", rows)), ("home", rows))

    def test_rows_that_no_run_gives_are_read(self):
        rows = [(ANN, ZOE, 0, (1, "lets", 7)), (BOB, ZOE, 1, (1, "moved", ZOE))]
        self.assertEqual(read_book_text(book_text("home", rows)), ("home", rows))

    def test_the_first_line(self):
        for head in ["", "book", "book ", "book Home", "book abcdefg", "book h0me", "book  home", " book home", "book home ",
                     "book home away", "Book home", "books home", "home", "book ann@home", "book 0", "ann@home zoe@away 1 0 none 0"]:
            for rest in ("", "\nann@home zoe@away 1 0 none 0", "\nwrong"):
                self.assertEqual(refused(read_book_text, head + rest), (NoText, {"row": 0}), repr(head))

    def test_lines_that_cannot_stand_there(self):
        good = BOOK.split("\n")
        wrong = [
            "", " ", "wrong", "book home", "book away", "cat@home zoe@away 1 0 none", "cat@home zoe@away 1 0 none 0 0",
            "cat@home zoe@away 1", "cat@home zoe@away 1 (0, none, 0)", "cat@home  zoe@away 1 0 none 0",
            " cat@home zoe@away 1 0 none 0", "cat@home zoe@away 1 0 none 0 ", "cat zoe@away 1 0 none 0",
            "cat@home zoe 1 0 none 0", "Cat@home zoe@away 1 0 none 0", "cat@home cat@home 1 0 none 0",
            "yan@away zoe@away 1 0 none 0", "yan@away tom@third 1 0 none 0", "cat@home zoe@away 0 0 none 0",
            "cat@home zoe@away 01 0 none 0", "cat@home zoe@away -1 1 bars 0", "cat@home zoe@away x 1 bars 0",
            "cat@home zoe@away 1 00 none 0", "cat@home zoe@away 1 01 lets 1", "cat@home zoe@away 1 1 lets 01",
            "cat@home zoe@away 1 0 none 00", "cat@home zoe@away 1 1 none 0", "cat@home zoe@away 1 0 lets 1",
            "cat@home zoe@away 1 1 lets 2", "cat@home zoe@away 1 1 lets 0", "cat@home zoe@away 1 1 lets x",
            "cat@home zoe@away 1 1 bars 1", "cat@home zoe@away 1 1 bars -", "cat@home zoe@away 1 1 open 0",
            "cat@home zoe@away 1 1 moved 0", "cat@home zoe@away 1 1 moved zoe", "cat@home zoe@away 1 1 moved -",
            "cat@home zoe@away 1 1 follows 1", "cat@home zoe@away 1 lets 1 1", "cat@home zoe@away 1 0 None 0",
            "cat@home zoe@away " + "1" * 21 + " 0 none 0", "cat@home zoe@away 1 " + "1" * 21 + " bars 0",
            "cat@home zoe@away 1 1 lets " + "1" * 21, "0 1 1 0 none 0",
        ]
        # Where the line is put it is in order by its people: behind cat@home's first row.
        self.assertEqual(read_book_text("\n".join(good[:5] + ["cat@home zoe@away 1 0 none 0"] + good[5:]))[0], "home")
        for line in wrong:
            for lines, row in [(good[:1] + [line], 1), (good[:5] + [line], 5), (good[:5] + [line] + good[5:], 5),
                               (good[:5] + [line, "wrong"], 5)]:
                self.assertEqual(refused(read_book_text, "\n".join(lines)), (NoText, {"row": row}), repr(line))

    def test_rows_out_of_order_and_told_twice(self):
        good = BOOK.split("\n")
        for at in range(2, len(good)):
            swapped = good[: at - 1] + [good[at], good[at - 1]] + good[at + 1:]
            self.assertEqual(refused(read_book_text, "\n".join(swapped)), (NoText, {"row": at}))
        for at in range(1, len(good)):
            twice = good[: at + 1] + good[at:]
            self.assertEqual(refused(read_book_text, "\n".join(twice)), (NoText, {"row": at + 1}))
        other = "\n".join(good[:2] + ["ann@home bob@home 2 0 none 0"])
        self.assertEqual(refused(read_book_text, other), (NoText, {"row": 2}))

    def test_in_order_by_the_first_then_the_second_person(self):
        rows = [("a@home", "z@away", 1, NONE), ("aa@home", "a@away", 1, NONE), ("aa@home", "b@away", 1, NONE)]
        self.assertEqual(read_book_text(book_text("home", sorted(rows))), ("home", sorted(rows)))

    def test_line_ends(self):
        good = BOOK.split("\n")
        self.assertEqual(refused(read_book_text, BOOK + "\n"), (NoText, {"row": len(good)}))
        self.assertEqual(refused(read_book_text, "book home\n"), (NoText, {"row": 1}))
        self.assertEqual(refused(read_book_text, "\n" + BOOK), (NoText, {"row": 0}))
        self.assertEqual(refused(read_book_text, BOOK.replace("\n", "\n\n", 1)), (NoText, {"row": 1}))
        self.assertEqual(refused(read_book_text, BOOK + "\n\n"), (NoText, {"row": len(good)}))

    def test_what_is_no_text(self):
        for thing in NO_TEXTS:
            self.assertEqual(refused(read_book_text, thing), (NoText, {"row": 0}), repr(thing))

    def test_what_is_handed_in_is_not_changed_and_told_lists_are_new(self):
        rows = list(ROWS)
        book_text("home", rows)
        self.assertEqual(rows, ROWS)
        read_book_text(BOOK)[1].clear()
        self.assertEqual(read_book_text(BOOK), ("home", ROWS))


if __name__ == "__main__":
    unittest.main()
