"""A town: houses with their books, the road between them, and what befalls both."""

from bothbooks.books import Book, read_book
from bothbooks.counts import counts, followers, following, in_vain, waiting
from bothbooks.errors import Fallen, NoHouse, NoLetter, Standing
from bothbooks.halves import is_whole
from bothbooks.letters import to_house
from bothbooks.mends import mending
from bothbooks.people import check_leaving, check_pair, house_of, is_house
from bothbooks.sums import shared, unlike

MOST_HOUSES = 4


def are_houses(thing):
    if not isinstance(thing, list) or not 1 <= len(thing) <= MOST_HOUSES:
        return False
    # Kinds come first: what is no text may not lie in a set.
    return all([is_house(house) for house in thing]) and len(set(thing)) == len(thing)


# books: for each house its book, in the order in which the houses were handed in.
# stands: for each house "up", "slips" (it is up, and to slip) or "down".
# sent: the letters of the road.
class Town:
    def __init__(self, houses):
        if not are_houses(houses):
            raise NoHouse("a town has one to four unlike houses")
        self.books = {}
        self.stands = {}
        self.sent = []
        for house in houses:
            self.books[house] = Book(house)
            self.stands[house] = "up"

    def houses(self):
        return list(self.books)

    def road(self):
        return list(self.sent)

    def rows(self, house):
        return self.book_at(house).rows()

    def lines(self, house):
        return self.book_at(house).lines()

    def is_up(self, house):
        self.check_house(house)
        return self.stands[house] != "down"

    def ask(self, first, second):
        book = self.book_of_doer(first, second)
        self.send(book, book.ask(first, second))

    def take_back(self, first, second):
        book = self.book_of_doer(first, second)
        self.send(book, book.take_back(first, second))

    def let(self, second, first):
        book = self.book_of_doer(second, first)
        self.send(book, book.let(second, first))

    def refuse(self, second, first):
        book = self.book_of_doer(second, first)
        self.send(book, book.refuse(second, first))

    def bar(self, second, first):
        book = self.book_of_doer(second, first)
        self.send(book, book.bar(second, first))

    def unbar(self, second, first):
        book = self.book_of_doer(second, first)
        self.send(book, book.unbar(second, first))

    def leave(self, person, other=None):
        check_leaving(person, other)
        book = self.book_that_is_up(house_of(person))
        self.send(book, book.leave(person, other))

    def carry(self, number):
        letter = self.take_from_road(number)
        book = self.book_at(to_house(letter))
        # To a house that is down the letter is lost.
        if self.is_up(book.house()):
            self.hand_over(book, letter)

    def lose(self, number):
        self.take_from_road(number)

    def double(self, number):
        self.check_number(number)
        self.sent.append(self.sent[number])

    def fall(self, house):
        self.check_up(house)
        self.stands[house] = "down"

    def come_up(self, house):
        if self.is_up(house):
            raise Standing("the house is up")
        self.books[house] = read_book(house, self.lines(house))
        self.stands[house] = "up"

    def slip(self, house):
        self.check_up(house)
        self.stands[house] = "slips"

    def state(self, first, second):
        self.check_people(first, second)
        return self.book_of(first).state(first, second)

    def settled(self, first, second):
        self.check_people(first, second)
        return (self.book_of(first).wish(first, second), self.book_of(second).answer(first, second))

    def agree(self, one, other):
        self.check_houses(one, other)
        pairs = shared(self.books[one], self.books[other])
        return all([self.halves_at(one, pair) == self.halves_at(other, pair) for pair in pairs])

    # The pairs in which both books differ by their sums.
    def unlike(self, one, other):
        self.check_houses(one, other)
        return unlike(self.books[one], self.books[other])[0]

    def mend(self, one, other):
        self.check_houses(one, other)
        letters = mending(self.book_that_is_up(one), self.book_that_is_up(other))
        self.sent.extend(letters)
        return len(letters)

    def followers(self, person):
        return followers(self.book_of(person), person)

    def following(self, person):
        return following(self.book_of(person), person)

    def waiting(self, person):
        return waiting(self.book_of(person), person)

    def in_vain(self, person):
        return in_vain(self.book_of(person), person)

    def counts(self, person):
        return counts(self.book_of(person), person)

    def check_house(self, house):
        if not is_house(house) or house not in self.books:
            raise NoHouse("the town has no such house")

    def check_houses(self, one, other):
        self.check_house(one)
        self.check_house(other)
        if one == other:
            raise NoHouse("both houses are one")

    def check_up(self, house):
        if not self.is_up(house):
            raise Fallen("the house is down")

    def check_people(self, first, second):
        check_pair(first, second)
        self.check_house(house_of(first))
        self.check_house(house_of(second))

    def check_number(self, number):
        if not is_whole(number) or not 0 <= number < len(self.sent):
            raise NoLetter("the road has no letter of this number")

    def book_at(self, house):
        self.check_house(house)
        return self.books[house]

    def book_that_is_up(self, house):
        self.check_up(house)
        return self.books[house]

    def book_of(self, person):
        return self.book_at(house_of(person))

    def book_of_doer(self, doer, other):
        self.check_people(doer, other)
        return self.book_that_is_up(house_of(doer))

    def halves_at(self, house, pair):
        book = self.books[house]
        return (book.wish(pair[0], pair[1]), book.answer(pair[0], pair[1]))

    def take_from_road(self, number):
        self.check_number(number)
        return self.sent.pop(number)

    # A letter of which nothing becomes writes no line, so it doesn't end a slip.
    def hand_over(self, book, letter):
        ahead = len(book.lines())
        letters = book.take(letter)
        if len(book.lines()) > ahead:
            self.send(book, letters)

    # Sends what came of a deed or letter by which the book wrote a line.
    def send(self, book, letters):
        if self.stands[book.house()] == "slips":
            self.stands[book.house()] = "down"
        else:
            self.sent.extend(letters)
