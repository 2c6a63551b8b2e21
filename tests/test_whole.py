"""What holds over whole towns, whatever was done in them (point 4): drawn towns, each with a seed."""

import itertools
import random
import unittest

from bothbooks.books import read_book
from bothbooks.desk import Desk
from bothbooks.judges import judged
from bothbooks.mends import mending
from bothbooks.runs import replay
from bothbooks.sums import shared, sum_of, unlike
from bothbooks.texts import deed_text, read_book_text, read_deed
from bothbooks.town import Town
from making import PEOPLE_DEEDS, draw_deeds, is_done_in_town, people_of

QUIET = PEOPLE_DEEDS * 3 + ["ask", "let"] * 3 + ["leave"] + ["carry"] * 12 + ["double"]
LOSSY = QUIET + ["lose"] * 3 + ["mend"]
STORMY = LOSSY + ["fall", "slip"] + ["up"] * 4
HOUSES = ["home", "away", "third", "b"]


def draw_town(seed, words, many=100, least=2):
    """A town behind drawn deeds: the draw, the town, and its people."""
    draw = random.Random(seed)
    houses = HOUSES[: draw.randint(least, 4)]
    town = Town(houses)
    people = people_of(houses, ["ann", "bob", "zoe"][: draw.randint(1, 3)])
    for deed in draw_deeds(draw, town, people, words, many):
        pass
    return draw, town, people


def two_of(houses):
    return list(itertools.combinations(houses, 2))


def carry_at_will(draw, town, mended=()):
    """Carries letters in any order, with mendings of these houses between, till the road is empty."""
    more = list(mended)
    while town.road() or more:
        if more and draw.random() < 0.2:
            town.mend(*more.pop())
        elif town.road():
            town.carry(draw.randrange(len(town.road())))


def rows_between(town, house, one, other):
    """The rows of pairs of both houses, in the book of the house told."""
    houses = {one, other}
    return [row for row in town.rows(house) if {part.partition("@")[2] for part in row[:2]} == houses]


class TestAgree(unittest.TestCase):
    def assert_all_agree(self, town, people):
        for one, other in two_of(town.houses()):
            self.assertIs(town.agree(one, other), True)
            rows = rows_between(town, one, one, other)
            self.assertEqual(rows, rows_between(town, other, one, other))
            for first, second, wish, answer in rows:
                self.assertEqual(town.settled(first, second), (wish, answer))

    def settle(self, draw, town):
        """All houses up, none to slip; each two mended, in any order, letters carried between."""
        for house in town.houses():
            if town.is_up(house):
                town.fall(house)
            town.come_up(house)
        pairs = two_of(town.houses())
        draw.shuffle(pairs)
        for one, other in pairs:
            town.mend(*draw.choice([(one, other), (other, one)]))
            for turn in range(draw.randint(0, 5)):
                if town.road():
                    town.carry(draw.randrange(len(town.road())))
        carry_at_will(draw, town, draw.sample(pairs, 1))

    def test_mended_and_carried(self):
        unlike_ahead = 0
        for seed in range(200):
            draw, town, people = draw_town(seed, STORMY)
            unlike_ahead += not all(town.agree(*houses) for houses in two_of(town.houses()))
            self.settle(draw, town)
            with self.subTest(seed=seed):
                self.assert_all_agree(town, people)
        self.assertGreater(unlike_ahead, 100)

    def test_without_a_mending_where_nothing_was_lost(self):
        unlike_ahead = 0
        for seed in range(200):
            draw, town, people = draw_town(seed, QUIET)
            unlike_ahead += not all(town.agree(*houses) for houses in two_of(town.houses()))
            carry_at_will(draw, town)
            with self.subTest(seed=seed):
                self.assert_all_agree(town, people)
        self.assertGreater(unlike_ahead, 100)


class TestCounted(unittest.TestCase):
    def test_behind_each_deed(self):
        self.met = {"same": 0, "sent": 0, "slipped": 0}
        for seed in range(80):
            self.walk(seed)
        for way, many in self.met.items():
            self.assertGreater(many, 0, way)

    def walk(self, seed):
        draw = random.Random(seed)
        houses = HOUSES[: draw.randint(2, 3)]
        town = Town(houses)
        people = people_of(houses, ["ann", "bob"])
        sent, slipped, up = set(), set(), set(houses)
        for deed in draw_deeds(draw, town, people, STORMY + ["slip", "back", "up"] * 4, 150):
            sent |= set(town.road())
            now_up = {house for house in houses if town.is_up(house)}
            if deed[0] != "fall":
                slipped |= up - now_up
            up = now_up
            for person in people:
                self.assert_counted(town, person, sent, slipped)

    def assert_counted(self, town, person, sent, slipped):
        house = person.partition("@")[2]
        known = {row[:2]: row[2] for row in town.rows(house)}
        for first in town.followers(person):
            own_house = first.partition("@")[2]
            if own_house == house:
                continue
            wish, copy = town.settled(first, person)[0], known[(first, person)]
            self.assertGreaterEqual(wish, copy)
            if wish == copy:
                self.met["same"] += 1
            elif any(letter[:3] == ("wish", first, person) and letter[3] > copy for letter in sent):
                self.met["sent"] += 1
            else:
                self.assertIn(own_house, slipped)
                self.met["slipped"] += 1


class TestBarred(unittest.TestCase):
    SHUT = ("bars", "gone", "moved")

    def test_behind_each_deed(self):
        self.met = 0
        for seed in range(80):
            self.walk(seed)
        self.assertGreater(self.met, 1000)

    def walk(self, seed):
        draw = random.Random(seed)
        houses = HOUSES[: draw.randint(1, 3)]
        town = Town(houses)
        people = people_of(houses, ["ann", "bob"])
        words = STORMY + ["bar", "unbar", "leave"] * 2
        # For each pair the words of its answers, from that of number 0 on.
        history = {pair: ["none"] for pair in itertools.permutations(people, 2)}
        for deed in draw_deeds(draw, town, people, words, 120):
            for pair, answers in history.items():
                number, word, at = town.settled(*pair)[1]
                self.assertIn(number, (len(answers) - 1, len(answers)))
                if number == len(answers):
                    answers.append(word)
            for house in houses:
                self.assert_barred(town, house, history)

    def assert_barred(self, town, house, history):
        numbers = {row[:2]: row[3][0] for row in town.rows(house)}
        for (first, second), answers in history.items():
            known = answers[: numbers.get((first, second), 0) + 1]
            if not self.is_barred(known):
                continue
            self.met += 1
            if second.partition("@")[2] == house:
                self.assertNotIn(first, town.followers(second))
            if first.partition("@")[2] == house:
                self.assertNotIn(second, town.following(first))

    def is_barred(self, words):
        """Barred, or left, and not let since."""
        shut = [number for number, word in enumerate(words) if word in self.SHUT]
        return bool(shut) and "lets" not in words[shut[-1]:]


def books_of(town, one, other):
    return read_book(one, town.lines(one)), read_book(other, town.lines(other))


class TestSums(unittest.TestCase):
    def test_two_books_that_agree(self):
        met = 0
        for seed in range(100):
            draw, town, people = draw_town(seed, QUIET)
            carry_at_will(draw, town)
            for houses in two_of(town.houses()):
                one, other = books_of(town, *houses)
                pairs = shared(one, other)
                met += len(pairs)
                for many in {0, len(pairs) // 2, len(pairs)}:
                    some = draw.sample(pairs, many)
                    self.assertEqual(sum_of(one, some), sum_of(other, some))
                self.assertEqual(unlike(one, other), ([], 1))
        self.assertGreater(met, 500)

    def test_two_that_differ_in_one_halfs_number(self):
        met = set()
        for seed in range(100):
            draw, town, people = draw_town(seed, QUIET)
            carry_at_will(draw, town)
            one, other = town.houses()[:2]
            first = draw.choice([person for person in people if person.endswith("@" + one)])
            second = draw.choice([person for person in people if person.endswith("@" + other)])
            words = ["ask", "back", "bar", "unbar"]
            draw.shuffle(words)
            word = next((word for word in words if is_done_in_town(town, (word, first, second))), None)
            if word is None:
                continue
            met.add(word)
            pair = (first, second) if word in ("ask", "back") else (second, first)
            books = books_of(town, one, other)
            pairs = shared(*books)
            self.assertIn(pair, pairs)
            self.assertNotEqual(sum_of(books[0], pairs), sum_of(books[1], pairs))
            self.assertNotEqual(sum_of(books[0], [pair]), sum_of(books[1], [pair]))
            self.assertEqual(unlike(*books)[0], [pair])
        self.assertEqual(met, {"ask", "back", "bar", "unbar"})


class TestMended(unittest.TestCase):
    def drawn(self):
        """Drawn runs that lost letters: houses, deeds, and two of the houses, both up and not to slip."""
        for seed in range(60):
            draw = random.Random(seed)
            houses = HOUSES[: draw.randint(2, 3)]
            town = Town(houses)
            people = people_of(houses, ["ann", "bob"])
            deeds = list(draw_deeds(draw, town, people, STORMY, 80))
            for house in houses:
                deeds.extend([("fall", house), ("up", house)] if town.is_up(house) else [("up", house)])
            yield draw, houses, deeds, draw.sample(houses, 2)

    def carry_from(self, draw, town, start):
        """Carries the letters from this place of the road on, and all that comes of them, in any order."""
        while len(town.road()) > start:
            town.carry(draw.randrange(start, len(town.road())))

    def test_all_letters_in_any_order(self):
        met = 0
        for draw, houses, deeds, (one, other) in self.drawn():
            for turn in range(4):
                town = replay(houses, deeds)
                start = len(town.road())
                letters = mending(*books_of(town, one, other))
                self.assertEqual(town.mend(one, other), len(letters))
                self.assertEqual(town.road()[start:], letters)
                met += len(letters) > 1
                self.carry_from(draw, town, start)
                self.assertIs(town.agree(one, other), True)
                self.assertEqual(town.mend(one, other), 0)
        self.assertGreater(met, 50)

    def test_any_one_left_out(self):
        met = 0
        for draw, houses, deeds, (one, other) in self.drawn():
            town = replay(houses, deeds)
            many = town.mend(one, other)
            for number in range(many):
                town = replay(houses, deeds)
                start = len(town.road())
                town.mend(one, other)
                town.lose(start + number)
                self.carry_from(draw, town, start)
                self.assertIs(town.agree(one, other), False)
                met += 1
        self.assertGreater(met, 100)


class TestJudged(unittest.TestCase):
    """That no deeds lead to what is told as of none, test_judges.py holds against a search."""

    def test_the_deeds_told_lead_to_the_books_also_at_a_desk(self):
        met = 0
        for seed in range(80):
            draw = random.Random(seed)
            houses = draw.sample(HOUSES, 2)
            town = Town(houses)
            people = people_of(houses, ["ann", "bob", "zoe"])
            for deed in draw_deeds(draw, town, people, STORMY, 100):
                pass
            one, other = houses
            word, deeds = judged(one, town.rows(one), other, town.rows(other))
            self.assertEqual(word, "run")
            met += len(deeds)
            texts = [deed_text(deed) for deed in deeds]
            self.assertEqual([read_deed(text) for text in texts], deeds)
            desk = Desk()
            desk.say(f"town {one} {other}")
            for text in texts:
                self.assertEqual(desk.say(text), "ok")
            for house in houses:
                self.assertEqual(read_book_text(desk.say(f"book {house}")), (house, town.rows(house)))
            self.assertEqual(desk.say(f"judge {one} {other}"), f"run {len(deeds)}")
        self.assertGreater(met, 1000)


if __name__ == "__main__":
    unittest.main()
