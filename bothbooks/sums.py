"""Sums: two books held together by few numbers, and the pairs in which they differ."""

from bothbooks.errors import NoHouse
from bothbooks.people import check_pair, house_of

# 2 ** 61 - 1. It is a prime, so a key times what is less than P, and not 0, never leaves 0.
P = 2305843009213693951


def key(first, second):
    check_pair(first, second)
    total = 7
    for sign in " ".join([first, second]):
        total = (total * 131 + ord(sign)) % P
    # A key of 0 would hide every turn of its pair.
    return 1 if total == 0 else total


# For each pair that has a row, the numbers of its two halves.
def numbers_of(book):
    numbers = {}
    for row in book.rows():
        numbers[(row[0], row[1])] = (row[2], row[3][0])
    return numbers


def weight(pair, numbers):
    pair_key = key(pair[0], pair[1])
    turns = numbers.get(pair, (0, 0))
    return pair_key * turns[0] + (31 * pair_key % P) * turns[1]


def sum_over(numbers, pairs):
    return sum([weight(pair, numbers) for pair in pairs]) % P


def sum_of(book, pairs):
    return sum_over(numbers_of(book), pairs)


def is_between(row, one, other):
    houses = (house_of(row[0]), house_of(row[1]))
    return houses == (one.house(), other.house()) or houses == (other.house(), one.house())


def shared(one, other):
    if one.house() == other.house():
        raise NoHouse("both books are of one house")
    rows = one.rows() + other.rows()
    return sorted(set([(row[0], row[1]) for row in rows if is_between(row, one, other)]))


# Tells what unlike tells, of this list of pairs.
def look(numbers, others, pairs):
    if sum_over(numbers, pairs) == sum_over(others, pairs):
        return ([], 1)
    if len(pairs) == 1:
        return (pairs, 1)
    half = len(pairs) // 2
    ahead = look(numbers, others, pairs[:half])
    behind = look(numbers, others, pairs[half:])
    return (ahead[0] + behind[0], 1 + ahead[1] + behind[1])


def unlike(one, other):
    return look(numbers_of(one), numbers_of(other), shared(one, other))
