"""The refusals: one base, and each refusal right under it."""


class BookError(ValueError):
    pass


class NoPerson(BookError):
    pass


class NoHouse(BookError):
    pass


class NoPair(BookError):
    pass


# now: the state of the pair, a text, in which the deed may not be done.
class Wrong(BookError):
    def __init__(self, now):
        self.now = now


class NotHere(BookError):
    pass


class Gone(BookError):
    pass


class Fallen(BookError):
    pass


class Standing(BookError):
    pass


class NoLetter(BookError):
    pass


# row: the number, from 0, of the first line that cannot stand there.
class NoText(BookError):
    def __init__(self, row):
        self.row = row


# at: the number, from 0, of the first deed that is none or is refused.
class NoDeed(BookError):
    def __init__(self, at):
        self.at = at


# at: the number, from 0, of the first row that cannot stand in the book.
class NoBook(BookError):
    def __init__(self, at):
        self.at = at
