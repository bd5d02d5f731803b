"""Kinds and their things: points 3 and 4 of the document."""


def count(kind):
    return built_up(kind, {"none": 0, "one": 1}, joined_count)


def things(kind):
    return built_up(kind, {"none": [], "one": [()]}, joined_things)


def gift(kind, way, thing):
    return way[1][things(kind[1]).index(thing)]


# The kinds of programs may be nested far deeper than 12, so this goes through a list and not by calls in calls.
def built_up(kind, plain, joined):
    done = []
    for here in reversed(kinds_within(kind)):
        if here[0] in plain:
            done.append(plain[here[0]])
        else:
            second = done.pop()
            first = done.pop()
            done.append(joined(here[0], first, second))
    return done[0]


# The second of two comes ahead of the first: so, walked from behind, the first is done first.
def kinds_within(kind):
    order = []
    ahead = [kind]
    while len(ahead) > 0:
        here = ahead.pop()
        order.append(here)
        ahead.extend(here[1:])
    return order


def joined_count(word, first, second):
    if word == "either":
        return first + second
    if word == "both":
        return first * second
    return power(second, first)


# By squares, so that a kind somewhat beyond the bounds, with a large exponent, takes few turns too.
def power(base, exponent):
    answer = 1
    square = base
    left = exponent
    while left > 0:
        if left % 2 == 1:
            answer = answer * square
        left = left // 2
        if left > 0:
            square = square * square
    return answer


def joined_things(word, first, second):
    if word == "either":
        return [("l", thing) for thing in first] + [("r", thing) for thing in second]
    if word == "both":
        return pairs(first, second)
    return [("w", row) for row in rows_over(len(first), second)]


def pairs(first, second):
    answer = []
    for thing in first:
        answer.extend([("p", thing, other) for other in second])
    return answer


# The newest of a row changes fastest, which is what sorts rows by their first, then their second, and so on.
def rows_over(length, choices):
    rows = [()]
    for done in range(length):
        longer = []
        for row in rows:
            longer.extend([row + (choice,) for choice in choices])
        rows = longer
    return rows
