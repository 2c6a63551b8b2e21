"""All that a few pairs of two houses can come to, found by going through every deed, to hold the judge against.

A pair stands as (wish, heard, known, answers): the own wish, how many of the answers the first person's house
heard of, the wish that the second one's house knows of, and all answers so far as tuples (word, at). Of a pair of
one house all is known and heard at once. Letters may be doubled, so each turn may be told at any later time.
"""

NONE = (0, "none", 0)


def house_of(person):
    return person.partition("@")[2]


def is_of_one_house(pair):
    return house_of(pair[0]) == house_of(pair[1])


def answer_at(answers, number):
    return NONE if number == 0 else (number,) + answers[number - 1]


def state_by(wish, answer):
    number, word, at = answer
    if word in ("gone", "moved"):
        return "gone"
    if word == "bars":
        return "barred"
    if wish % 2 == 0:
        return "nothing"
    if word in ("lets", "refuses") and at == wish:
        return {"lets": "follows", "refuses": "refused"}[word]
    return "asked"


def stand(pair, wish, heard, known, answers):
    if is_of_one_house(pair):
        return (wish, len(answers), wish, answers)
    return (wish, heard, known, answers)


def bid_farewell(answers, leaving):
    """A wish to one who has left is answered so."""
    if leaving is None or (answers and answers[-1][0] in ("gone", "moved")):
        return answers
    return answers + (leaving,)


def wishes_turned(pair, now, left):
    wish, heard, known, answers = now
    if left[pair[0]] is not None:
        return
    if wish % 2 == 1:
        yield stand(pair, wish + 1, heard, known, answers)
    elif state_by(wish, answer_at(answers, heard)) == "nothing":
        if is_of_one_house(pair):
            answers = bid_farewell(answers, left[pair[1]])
        yield stand(pair, wish + 1, heard, known, answers)


def answers_turned(pair, now, left):
    wish, heard, known, answers = now
    if left[pair[1]] is not None:
        return
    state = state_by(known, answer_at(answers, len(answers)))
    if state == "asked":
        yield stand(pair, wish, heard, known, answers + (("lets", known),))
    if state in ("asked", "follows"):
        yield stand(pair, wish, heard, known, answers + (("refuses", known),))
    if state not in ("barred", "gone"):
        yield stand(pair, wish, heard, known, answers + (("bars", 0),))
    if state == "barred":
        yield stand(pair, wish, heard, known, answers + (("open", 0),))


def letters_taken(pair, now, left):
    wish, heard, known, answers = now
    if is_of_one_house(pair):
        return
    for told in range(known + 1, wish + 1):
        yield (wish, heard, told, bid_farewell(answers, left[pair[1]]))
    for told in range(heard + 1, len(answers) + 1):
        yield (wish, told, known, answers)


def behind_leaving(pair, now, person, leaving):
    wish, heard, known, answers = now
    if pair[0] == person and wish % 2 == 1:
        wish += 1
    if pair[1] == person and (answers or known > 0):
        answers += (leaving,)
    return stand(pair, wish, heard, known, answers)


def leavings(pairs, stands, left, others):
    for person in left:
        for other in others:
            if left[person] is None and other != person:
                leaving = ("gone", 0) if other is None else ("moved", other)
                behind = [behind_leaving(pair, now, person, leaving) for pair, now in zip(pairs, stands)]
                yield tuple(behind), {**left, person: leaving}


def steps(pairs, stands, left, others):
    for place, pair in enumerate(pairs):
        for turned in (wishes_turned, answers_turned, letters_taken):
            for now in turned(pair, stands[place], left):
                yield stands[:place] + (now,) + stands[place + 1:], left
    yield from leavings(pairs, stands, left, others)


def reachable(pairs, most_wish, most_number, others):
    """A set: for each pair (wish, heard answer, known wish, own answer), all that some run leads to."""
    people = sorted({person for pair in pairs for person in pair})
    first = (tuple((0, 0, 0, ()) for pair in pairs), dict.fromkeys(people))
    seen = {(first[0], tuple(first[1].items()))}
    waiting = [first]
    while waiting:
        for stands, left in steps(pairs, *waiting.pop(), others):
            mark = (stands, tuple(left.items()))
            if mark in seen or any(now[0] > most_wish or len(now[3]) > most_number for now in stands):
                continue
            seen.add(mark)
            waiting.append((stands, left))
    return {
        tuple((now[0], answer_at(now[3], now[1]), now[2], answer_at(now[3], len(now[3]))) for now in stands)
        for stands, left in seen
    }


def all_answers(most_wish, most_number, others):
    """All answers within these bounds."""
    answers = [NONE]
    for number in range(1, most_number + 1):
        for at in range(1, most_wish + 1, 2):
            answers += [(number, "lets", at), (number, "refuses", at)]
        answers += [(number, "gone", 0) if other is None else (number, "moved", other) for other in others]
        answers += [(number, "bars", 0)] + ([(number, "open", 0)] if number > 1 else [])
    return answers


def rows_of(pairs, found):
    """A set of tuples (house, row), a row of no turn where the book has none."""
    rows = set()
    for (first, second), (wish, heard, known, answer) in zip(pairs, found):
        rows.add((house_of(first), (first, second, wish, heard)))
        rows.add((house_of(second), (first, second, known, answer)))
    return rows


def books_of(pairs, found):
    """The rows of both houses, home and away."""
    books = {"home": [], "away": []}
    for house, row in sorted(rows_of(pairs, found)):
        if row[2:] != (0, NONE):
            books[house].append(row)
    return books
