"""Keys, sums, shared and unlike pairs (points 2, 3, 21, 22 and 23)."""

import unittest

from bothbooks.books import Book, read_book
from bothbooks.errors import NoHouse, NoPair, NoPerson
from bothbooks.sums import key, shared, sum_of, unlike
from making import ANN, BOB, SITUATIONS, TOM, TWENTY, YAN, ZOE, books_by, refusal, refusal_class, told

P = 2 ** 61 - 1
# What is left by P of this pair's text is just 0.
NOUGHT_PAIR = ("ojqlnpfk@omnmrm", "prolmmmm@mmmmmm")


def whole_key(first, second):
    """The key as one whole number, without what is left by P."""
    number = 7
    for sign in first + " " + second:
        number = number * 131 + ord(sign)
    return number


def by_hand(rows, pairs):
    """The sum of rows over pairs, from whole numbers; of no use for a pair whose key is 0."""
    total = 0
    for first, second, wish, answer in rows:
        if (first, second) in pairs:
            total += whole_key(first, second) * (wish + 31 * answer[0])
    return total % P


class TestKeys(unittest.TestCase):
    def test_reckoned_in_one_whole_number(self):
        people = [ANN, BOB, YAN, ZOE, TOM, "a@b", "-@a", "9@z", "12345678@abcdef", "a-b-c-d-@zzzzzz"]
        for first in people:
            for second in people:
                if first != second:
                    self.assertEqual(key(first, second), whole_key(first, second) % P)

    def test_sign_by_sign(self):
        number = 7
        for sign in [97, 64, 98, 32, 99, 64, 100]:
            number = number * 131 + sign
        self.assertEqual(key("a@b", "c@d"), number)
        self.assertEqual(number, 5127165950277191)
        self.assertEqual(key("ann@home", "zoe@away"), 1274674677448988153)
        self.assertEqual(key("zoe@away", "ann@home"), 1455559509248831540)

    def test_the_pair_turned_about(self):
        for first, second in [(ANN, BOB), (ANN, ZOE), ("a@b", "b@a")]:
            self.assertNotEqual(key(first, second), key(second, first))
            self.assertEqual(key(second, first), whole_key(second, first) % P)

    def test_where_nothing_is_left_it_is_one(self):
        self.assertEqual(whole_key(*NOUGHT_PAIR) % P, 0)
        self.assertEqual(key(*NOUGHT_PAIR), 1)

    def test_people_of_any_houses(self):
        self.assertEqual(key(ZOE, TOM), whole_key(ZOE, TOM) % P)
        self.assertEqual(key(ANN, BOB), whole_key(ANN, BOB) % P)

    def test_refused(self):
        for thing in [None, True, 0, "", "ann", "ann@", "Ann@home", "ann@home ", [], [ANN], (ANN,), {}]:
            self.assertIs(refusal_class(key, thing, ANN), NoPerson, repr(thing))
            self.assertIs(refusal_class(key, ANN, thing), NoPerson, repr(thing))
            self.assertIs(refusal_class(key, thing, thing), NoPerson, repr(thing))
        for person in (ANN, ZOE):
            self.assertIs(refusal_class(key, person, person), NoPair)

    def test_a_refusal_bears_no_value(self):
        for first, second in [("secret", ANN), (ANN, "secret"), ("x@secret", "x@secret")]:
            error = refusal(key, first, second)
            self.assertEqual(vars(error), {})
            self.assertNotIn("secret", repr(error))


class TestSums(unittest.TestCase):
    def book(self):
        book = Book("home")
        book.ask(ANN, BOB)
        book.let(BOB, ANN)
        book.ask(ANN, ZOE)
        book.take(("answer", ANN, ZOE, TWENTY, "lets", 1))
        book.take(("wish", ZOE, ANN, TWENTY - 4))
        book.bar(ANN, ZOE)
        book.unbar(ANN, ZOE)
        book.take(("wish", TOM, BOB, 8))
        book.bar(BOB, YAN)
        return book

    def test_over_no_pairs(self):
        self.assertEqual(sum_of(Book("home"), []), 0)
        self.assertEqual(sum_of(self.book(), []), 0)

    def test_over_pairs_without_rows_of_any_people(self):
        pairs = [(BOB, ANN), (YAN, ANN), (ZOE, TOM), (TOM, ZOE), (YAN, ZOE), NOUGHT_PAIR]
        for book in (Book("home"), self.book()):
            self.assertEqual(sum_of(book, pairs), 0)
            for pair in pairs:
                self.assertEqual(sum_of(book, [pair]), 0)

    def test_one_half_at_a_time(self):
        book = Book("home")
        pair = (ANN, ZOE)
        book.ask(*pair)
        self.assertEqual(sum_of(book, [pair]), key(*pair))
        book.take_back(*pair)
        self.assertEqual(sum_of(book, [pair]), 2 * key(*pair) % P)
        like = Book("home")
        like.take(("answer", ANN, ZOE, 1, "bars", 0))
        self.assertEqual(sum_of(like, [pair]), 31 * key(*pair) % P)
        like.take(("answer", ANN, ZOE, 5, "lets", 1))
        self.assertEqual(sum_of(like, [pair]), 155 * key(*pair) % P)

    def test_over_one_pair_and_over_many(self):
        book = self.book()
        pairs = [row[:2] for row in book.rows()]
        self.assertEqual(len(pairs), 5)
        for pair in pairs:
            self.assertEqual(sum_of(book, [pair]), by_hand(book.rows(), [pair]))
        for first in range(len(pairs)):
            for last in range(first, len(pairs) + 1):
                self.assertEqual(sum_of(book, pairs[first:last]), by_hand(book.rows(), pairs[first:last]))
        self.assertEqual(sum_of(book, pairs[::-1] + [(BOB, ANN), (ZOE, TOM)]), by_hand(book.rows(), pairs))

    def test_it_is_less_than_p(self):
        book = Book("home")
        book.take(("wish", ZOE, ANN, P))
        self.assertEqual(sum_of(book, [(ZOE, ANN)]), 0)
        book.take(("wish", ZOE, ANN, TWENTY))
        self.assertIn(sum_of(book, [(ZOE, ANN)]), range(1, P))

    def test_a_pair_whose_key_would_be_nought(self):
        first, second = NOUGHT_PAIR
        book = Book("omnmrm")
        book.ask(first, second)
        self.assertEqual(sum_of(book, [NOUGHT_PAIR]), 1)
        book.take(("answer", first, second, 2, "lets", 1))
        self.assertEqual(sum_of(book, [NOUGHT_PAIR]), 63)

    def sum_at(self, wish, number):
        book = Book("home")
        book.take(("wish", ZOE, ANN, wish))
        book.take(("answer", ANN, ZOE, number, "bars", 0))
        return sum_of(book, [(ZOE, ANN), (ANN, ZOE), (BOB, ZOE)])

    def test_numbers_that_differ_by_p(self):
        for wish, number in [(1, 1), (5, 2), (10 ** 19, 10 ** 19 + 7)]:
            self.assertEqual(self.sum_at(wish, number), self.sum_at(wish + P, number))
            self.assertEqual(self.sum_at(wish, number), self.sum_at(wish, number + P))
            self.assertEqual(self.sum_at(wish, number), self.sum_at(wish + 2 * P, number + P))

    def test_numbers_that_differ_by_less_than_p(self):
        for wish, number in [(1, 1), (5, 2), (10 ** 19, 10 ** 19 + 7)]:
            for more in (1, 2, 31, 2 ** 32, 2 ** 60, P - 31, P - 1):
                self.assertNotEqual(self.sum_at(wish, number), self.sum_at(wish + more, number))
                self.assertNotEqual(self.sum_at(wish, number), self.sum_at(wish, number + more))

    def test_the_list_handed_in_is_neither_changed_nor_kept(self):
        book = self.book()
        pairs = [row[:2] for row in book.rows()]
        kept = list(pairs)
        ahead, behind = sum_of(book, pairs), told(book)
        self.assertEqual(pairs, kept)
        pairs.clear()
        self.assertEqual(sum_of(book, kept), ahead)
        self.assertEqual(told(book), behind)


class TestShared(unittest.TestCase):
    def books(self):
        """Rows in both books, in the one, in the other, and rows that are not shared."""
        home, away = Book("home"), Book("away")
        home.ask(BOB, ZOE)
        away.take(("wish", BOB, ZOE, 1))
        home.bar(ANN, YAN)
        away.ask(ZOE, ANN)
        away.bar(YAN, ANN)
        home.ask(ANN, BOB)
        away.ask(YAN, ZOE)
        home.ask(ANN, TOM)
        away.ask(ZOE, TOM)
        home.take(("wish", TOM, ANN, 1))
        away.take(("answer", ZOE, TOM, 1, "bars", 0))
        return home, away

    def test_in_order_either_way_about(self):
        home, away = self.books()
        wanted = [(ANN, YAN), (BOB, ZOE), (YAN, ANN), (ZOE, ANN)]
        self.assertEqual(shared(home, away), wanted)
        self.assertEqual(shared(away, home), wanted)

    def test_none_are_shared(self):
        home, away = self.books()
        self.assertEqual(shared(Book("home"), Book("away")), [])
        self.assertEqual(shared(home, Book("third")), [(ANN, TOM), (TOM, ANN)])
        self.assertEqual(shared(home, Book("fourth")), [])
        self.assertEqual(shared(Book("fourth"), away), [])

    def test_in_the_order_of_pairs(self):
        home, away = Book("home"), Book("away")
        names = ["b", "a", "-", "ab", "9"]
        for name in names:
            for other in names:
                home.ask(f"{name}@home", f"{other}@away")
                away.ask(f"{name}@away", f"{other}@home")
        self.assertEqual(len(shared(home, away)), 50)
        self.assertEqual(shared(home, away), sorted(shared(home, away)))
        self.assertEqual(shared(away, home), shared(home, away))

    def test_two_books_of_one_house(self):
        home, away = self.books()
        for tell in (shared, unlike):
            self.assertIs(refusal_class(tell, home, home), NoHouse)
            self.assertIs(refusal_class(tell, home, Book("home")), NoHouse)
            self.assertIs(refusal_class(tell, Book("away"), away), NoHouse)
            self.assertEqual(vars(refusal(tell, home, home)), {})

    def test_a_told_list_is_the_askers_own(self):
        home, away = self.books()
        ahead = (told(home), told(away), shared(home, away), unlike(home, away))
        shared(home, away).clear()
        unlike(home, away)[0].clear()
        self.assertEqual((told(home), told(away), shared(home, away), unlike(home, away)), ahead)


class TestUnlike(unittest.TestCase):
    def pairs(self, many):
        """Pairs in order, in turn of both ways about."""
        names = "abcdefghijklmnopqrstuvwxyz"[:many]
        pairs = [(f"{n}@home", f"{n}@away") if place % 2 else (f"{n}@away", f"{n}@home") for place, n in enumerate(names)]
        self.assertEqual(pairs, sorted(pairs))
        return pairs

    def books(self, pairs, differing=()):
        """Books that share these pairs and differ in the wish of those told."""
        books = {"home": Book("home"), "away": Book("away")}
        for pair in pairs:
            own, copy = pair[0].partition("@")[2], pair[1].partition("@")[2]
            for letter in books[own].ask(*pair):
                books[copy].take(letter)
            if pair in differing:
                books[own].take_back(*pair)
        return books["home"], books["away"]

    def assert_told(self, home, away, pairs, looks):
        self.assertEqual(unlike(home, away), (pairs, looks))
        self.assertEqual(unlike(away, home), (pairs, looks))

    def test_nothing_is_shared(self):
        self.assert_told(Book("home"), Book("away"), [], 1)
        home = Book("home")
        home.ask(ANN, BOB)
        home.ask(ANN, TOM)
        self.assert_told(home, Book("away"), [], 1)

    def test_books_that_agree(self):
        for many in range(1, 20):
            home, away = self.books(self.pairs(many))
            self.assertEqual(len(shared(home, away)), many)
            self.assert_told(home, away, [], 1)
        for deeds in SITUATIONS.values():
            books = books_by(deeds, ANN, ZOE)
            self.assert_told(books["home"], books["away"], [], 1)

    def test_one_pair_differs(self):
        looks = {
            1: [1],
            2: [3, 3],
            3: [3, 5, 5],
            4: [5, 5, 5, 5],
            5: [5, 5, 5, 7, 7],
            8: [7, 7, 7, 7, 7, 7, 7, 7],
        }
        for many, wanted in looks.items():
            pairs = self.pairs(many)
            for place, pair in enumerate(pairs):
                home, away = self.books(pairs, [pair])
                self.assert_told(home, away, [pair], wanted[place])

    def test_each_pair_differs(self):
        for many, looks in [(1, 1), (2, 3), (3, 5), (5, 9), (8, 15), (13, 25)]:
            pairs = self.pairs(many)
            home, away = self.books(pairs, pairs)
            self.assert_told(home, away, pairs, looks)

    def test_many_pairs_differ(self):
        pairs = self.pairs(8)
        for places, looks in [([0, 1], 7), ([0, 2], 9), ([0, 4], 11), ([3, 4, 7], 13), ([0, 1, 2, 3], 9), ([6, 7], 7)]:
            differing = [pairs[place] for place in places]
            home, away = self.books(pairs, differing)
            self.assert_told(home, away, differing, looks)
        pairs = self.pairs(5)
        home, away = self.books(pairs, [pairs[0], pairs[2]])
        self.assert_told(home, away, [pairs[0], pairs[2]], 7)

    def test_at_most_so_many_lists_are_looked_at(self):
        for many in range(1, 27):
            depth = next(d for d in range(6) if many <= 2 ** d)
            pairs = self.pairs(many)
            for pair in pairs:
                home, away = self.books(pairs, [pair])
                told_pairs, looks = unlike(home, away)
                self.assertEqual(told_pairs, [pair])
                self.assertLessEqual(looks, 2 * depth + 1)

    def test_one_half_or_both_of_a_pair(self):
        home, away = Book("home"), Book("away")
        home.ask(ANN, ZOE)
        self.assert_told(home, away, [(ANN, ZOE)], 1)
        away.bar(ZOE, ANN)
        self.assert_told(home, away, [(ANN, ZOE)], 1)
        away.take(("wish", ANN, ZOE, 1))
        self.assert_told(home, away, [(ANN, ZOE)], 1)
        home.take(("answer", ANN, ZOE, 1, "bars", 0))
        self.assert_told(home, away, [], 1)

    def test_sums_alone_are_looked_at(self):
        # A wish that is greater by 31 weighs as much as an answer turned once more.
        home, away = Book("home"), Book("away")
        home.take(("wish", ZOE, ANN, 31))
        away.take(("answer", ZOE, ANN, 1, "bars", 0))
        self.assertEqual(shared(home, away), [(ZOE, ANN)])
        self.assert_told(home, away, [], 1)

    def test_a_number_greater_by_p_and_by_less(self):
        away = Book("away")
        away.ask(ZOE, ANN)
        for wish, wanted in [(1, []), (P, [(ZOE, ANN)]), (P + 1, []), (P + 2, [(ZOE, ANN)]), (TWENTY, [(ZOE, ANN)])]:
            home = read_book("home", [f"wish zoe@away ann@home {wish}"])
            self.assert_told(home, away, wanted, 1)


if __name__ == "__main__":
    unittest.main()
