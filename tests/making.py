"""What several tests need: people, books in a given state, and all that a book tells."""

from bothbooks.books import Book
from bothbooks.errors import BookError
from bothbooks.letters import to_house

NONE = (0, "none", 0)
TWENTY = 99999999999999999999
ANN, BOB, CAT = "ann@home", "bob@home", "cat@home"
YAN, ZOE = "yan@away", "zoe@away"
TOM = "tom@third"

# How a pair comes into a state: deeds, each done in its doer's house, its letters carried at once.
SITUATIONS = {
    "nothing": [],
    "nothing, taken back": ["ask", "take_back"],
    "nothing, let and taken back": ["ask", "let", "take_back"],
    "nothing, unbarred": ["bar", "unbar"],
    "asked": ["ask"],
    "asked, again": ["ask", "let", "take_back", "ask"],
    "asked, refused ahead": ["ask", "refuse", "take_back", "ask"],
    "asked, unbarred": ["ask", "bar", "unbar"],
    "follows": ["ask", "let"],
    "follows, again": ["ask", "refuse", "take_back", "ask", "let"],
    "refused": ["ask", "refuse"],
    "refused, let ahead": ["ask", "let", "refuse"],
    "barred": ["bar"],
    "barred, asking": ["ask", "let", "bar"],
    "barred, again": ["bar", "unbar", "bar"],
    "gone": ["bar", "unbar", "leave"],
    "gone, asking": ["ask", "leave"],
}
FIRST_DEEDS = ["ask", "take_back"]
SECOND_DEEDS = ["let", "refuse", "bar", "unbar"]


def do(book, deed, first, second):
    """Does a deed of the first or the second person of a pair."""
    if deed in FIRST_DEEDS:
        return getattr(book, deed)(first, second)
    if deed == "leave":
        return book.leave(second)
    return getattr(book, deed)(second, first)


def doer_of(deed, first, second):
    return first if deed in FIRST_DEEDS else second


def carry_all(books, letters):
    """Carries letters, and what comes of them, in order, to books by their houses."""
    waiting = list(letters)
    while waiting:
        letter = waiting.pop(0)
        waiting.extend(books[to_house(letter)].take(letter))


def books_by(deeds, first, second):
    """The books of the houses of both persons behind these deeds."""
    books = {person.partition("@")[2]: None for person in (first, second)}
    for house in books:
        books[house] = Book(house)
    for deed in deeds:
        home = doer_of(deed, first, second).partition("@")[2]
        carry_all(books, do(books[home], deed, first, second))
    return books


def told(book):
    """All that a book tells of itself."""
    return (book.house(), book.rows(), book.left(), book.lines())


def refusal(call, *arguments):
    """The refusal of a call, or None where it isn't refused."""
    try:
        call(*arguments)
    except BookError as error:
        return error
    return None


def refusal_class(call, *arguments):
    error = refusal(call, *arguments)
    return None if error is None else type(error)
