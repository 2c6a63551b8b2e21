"""What several tests need: people, books and towns in a given state, and all that these tell."""

from bothbooks.books import Book
from bothbooks.errors import BookError
from bothbooks.letters import to_house
from bothbooks.town import Town

NONE = (0, "none", 0)
TWENTY = 99999999999999999999
ANN, BOB, CAT = "ann@home", "bob@home", "cat@home"
YAN, ZOE = "yan@away", "zoe@away"
TOM = "tom@third"

# How a pair comes into a state: deeds, each done in its doer's house, its letters carried at once.
SITUATIONS = {
    "nothing": [],
    "nothing, taken back": ["ask", "take_back"],
    "nothing, let and taken back": ["ask", "let", "take_back"],
    "nothing, unbarred": ["bar", "unbar"],
    "asked": ["ask"],
    "asked, again": ["ask", "let", "take_back", "ask"],
    "asked, refused ahead": ["ask", "refuse", "take_back", "ask"],
    "asked, unbarred": ["ask", "bar", "unbar"],
    "follows": ["ask", "let"],
    "follows, again": ["ask", "refuse", "take_back", "ask", "let"],
    "refused": ["ask", "refuse"],
    "refused, let ahead": ["ask", "let", "refuse"],
    "barred": ["bar"],
    "barred, asking": ["ask", "let", "bar"],
    "barred, again": ["bar", "unbar", "bar"],
    "gone": ["bar", "unbar", "leave"],
    "gone, asking": ["ask", "leave"],
}
FIRST_DEEDS = ["ask", "take_back"]
SECOND_DEEDS = ["let", "refuse", "bar", "unbar"]


def do(book, deed, first, second):
    """Does a deed of the first or the second person of a pair."""
    if deed in FIRST_DEEDS:
        return getattr(book, deed)(first, second)
    if deed == "leave":
        return book.leave(second)
    return getattr(book, deed)(second, first)


def doer_of(deed, first, second):
    return first if deed in FIRST_DEEDS else second


def carry_all(books, letters):
    """Carries letters, and what comes of them, in order, to books by their houses."""
    waiting = list(letters)
    while waiting:
        letter = waiting.pop(0)
        waiting.extend(books[to_house(letter)].take(letter))


def books_by(deeds, first, second):
    """The books of the houses of both persons behind these deeds."""
    books = {person.partition("@")[2]: None for person in (first, second)}
    for house in books:
        books[house] = Book(house)
    for deed in deeds:
        home = doer_of(deed, first, second).partition("@")[2]
        carry_all(books, do(books[home], deed, first, second))
    return books


def told(book):
    """All that a book tells of itself."""
    return (book.house(), book.rows(), book.left(), book.lines())


def refusal(call, *arguments):
    """The refusal of a call, or None where it isn't refused."""
    try:
        call(*arguments)
    except BookError as error:
        return error
    return None


def refusal_class(call, *arguments):
    error = refusal(call, *arguments)
    return None if error is None else type(error)


# The deeds of a town as tuples: for each first word the name of the town's own deed.
TOWN_DEEDS = {
    "ask": "ask", "back": "take_back", "let": "let", "refuse": "refuse", "bar": "bar", "unbar": "unbar",
    "leave": "leave", "carry": "carry", "lose": "lose", "double": "double", "fall": "fall", "up": "come_up",
    "slip": "slip", "mend": "mend",
}
PEOPLE_DEEDS = ["ask", "back", "let", "refuse", "bar", "unbar"]


def do_in_town(town, deed):
    """Does a deed told as a tuple."""
    return getattr(town, TOWN_DEEDS[deed[0]])(*deed[1:])


def is_done_in_town(town, deed):
    return refusal(do_in_town, town, deed) is None


def carry_road(town):
    """Carries letters from the road's start till it is empty."""
    while town.road():
        town.carry(0)


def town_by(deeds, first, second, houses=("home", "away", "third")):
    """A town behind these deeds of a pair, the letters carried at once."""
    town = Town(list(houses))
    for deed in deeds:
        do(town, deed, first, second)
        carry_road(town)
    return town


def told_by_town(town):
    """All that a town tells of itself, but of people."""
    houses = town.houses()
    return (houses, town.road(), [(house, town.is_up(house), town.rows(house), town.lines(house)) for house in houses])


def people_of(houses, names):
    return [f"{name}@{house}" for house in houses for name in names]


def draw_deed(draw, town, people, words):
    """A deed that may be refused; draw is a source of chance with a seed."""
    word = draw.choice(words)
    if word in PEOPLE_DEEDS:
        return (word,) + tuple(draw.sample(people, 2))
    if word == "leave":
        return (word, draw.choice(people), draw.choice([None, None, TOM, "new@away", "x@nowhere"] + people))
    if word in ("carry", "lose", "double"):
        return (word, draw.randrange(max(1, len(town.road()))))
    if word == "mend":
        return (word, draw.choice(town.houses()), draw.choice(town.houses()))
    return (word, draw.choice(town.houses()))


def draw_deeds(draw, town, people, words, many):
    """Tries so many deeds; those that were done are walked one by one."""
    for turn in range(many):
        deed = draw_deed(draw, town, people, words)
        if is_done_in_town(town, deed):
            yield deed
