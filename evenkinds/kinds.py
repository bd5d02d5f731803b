"""Kinds and their things: points 3 and 4 of the document."""

from evenkinds.shelf import are_alike, made_of_parts


def count(kind):
    return built_up(kind, {"none": 0, "one": 1}, joined_count)


def things(kind):
    return built_up(kind, {"none": [], "one": [()]}, joined_things)


def gift(kind, way, thing):
    return way[1][place_of(kind[1], thing)]


# Its number among the things of the kind.
def place_of(kind, thing):
    return [are_alike(one, thing) for one in things(kind)].index(True)


def built_up(kind, plain, joined):
    def made(here, parts):
        return plain[here[0]] if here[0] in plain else joined(here[0], parts[0], parts[1])

    return made_of_parts(kind, lambda here: here[1:], made)


# A thing with its kind: those that it is made of, with theirs.
def things_within(held):
    kind = held[0]
    thing = held[1]
    if kind[0] == "one":
        return []
    if kind[0] == "both":
        return [(kind[1], thing[1]), (kind[2], thing[2])]
    if kind[0] == "way":
        return [(kind[2], given) for given in thing[1]]
    return [(kind[1] if thing[0] == "l" else kind[2], thing[1])]


def joined_count(word, first, second):
    if word == "either":
        return first + second
    if word == "both":
        return first * second
    return power(second, first)


# How many things a kind has: none, one, or more, which is told as two; by what its halves have.
def none_one_or_more(word, halves):
    if word == "either":
        return min(2, halves[0] + halves[1])
    if word == "both":
        return min(2, halves[0] * halves[1])
    if word == "way":
        return 1 if halves[0] == 0 else halves[1]
    return 1 if word == "one" else 0


# By squares, so that a kind somewhat beyond the bounds, with a large exponent, takes few turns too.
def power(base, exponent):
    answer = 1
    square = base
    left = exponent
    while left > 0:
        if left % 2 == 1:
            answer = answer * square
        left = left // 2
        if left > 0:
            square = square * square
    return answer


def joined_things(word, first, second):
    if word == "either":
        return [("l", thing) for thing in first] + [("r", thing) for thing in second]
    if word == "both":
        return pairs(first, second)
    return [("w", row) for row in rows_over(len(first), second)]


def pairs(first, second):
    answer = []
    for thing in first:
        answer.extend([("p", thing, other) for other in second])
    return answer


# The newest of a row changes fastest, which is what sorts rows by their first, then their second, and so on.
def rows_over(length, choices):
    rows = [()]
    for done in range(length):
        longer = []
        for row in rows:
            longer.extend([row + (choice,) for choice in choices])
        rows = longer
    return rows
