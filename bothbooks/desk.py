"""The desk: a town that is told its deeds, and asked, by rows of text."""

from bothbooks.judges import judged
from bothbooks.letters import letter_text
from bothbooks.runs import do_deed
from bothbooks.texts import book_text, read_deed, words_of
from bothbooks.town import Town

# How many words each question has behind its first one.
QUESTIONS = {
    "state": 2, "counts": 1, "followers": 1, "following": 1, "waiting": 1, "road": 0, "book": 1, "lines": 1,
    "agree": 2, "judge": 2,
}


def is_question(words):
    return words[0] in QUESTIONS and len(words) == 1 + QUESTIONS[words[0]]


def on_rows(texts):
    return "\n".join(texts) if texts else "none"


def with_blanks(texts):
    return " ".join(texts) if texts else "none"


def tell_agree(town, one, other):
    if town.agree(one, other):
        return "yes"
    return "\n".join([" ".join(pair) for pair in town.unlike(one, other)])


def tell_judged(town, one, other):
    told = judged(one, town.rows(one), other, town.rows(other))
    if told[0] == "none":
        return "none"
    return " ".join(["run", str(len(told[1]))])


def tell_of_person(town, word, person):
    if word == "counts":
        return " ".join([str(number) for number in town.counts(person)])
    if word == "followers":
        return with_blanks(town.followers(person))
    if word == "following":
        return with_blanks(town.following(person))
    return with_blanks(town.waiting(person))


def tell(town, words):
    if words[0] == "state":
        return town.state(words[1], words[2])
    if words[0] == "road":
        return on_rows([letter_text(letter) for letter in town.road()])
    if words[0] == "book":
        return book_text(words[1], town.rows(words[1]))
    if words[0] == "lines":
        return on_rows(town.lines(words[1]))
    if words[0] == "agree":
        return tell_agree(town, words[1], words[2])
    if words[0] == "judge":
        return tell_judged(town, words[1], words[2])
    return tell_of_person(town, words[0], words[1])


class Desk:
    def __init__(self):
        self.town = Town(["home"])

    def say(self, row):
        words = words_of(row)
        if words[0] == "town" and len(words) > 1:
            self.town = Town(list(words[1:]))
            return "ok"
        if is_question(words):
            return tell(self.town, words)
        told = do_deed(self.town, read_deed(row))
        return "ok" if told is None else str(told)
