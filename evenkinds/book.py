"""The book of single steps: point 12 of the document."""

from evenkinds.errors import NoKind
from evenkinds.names import lifted, put_in
from evenkinds.programs import are_of_one_kind, kind_of

WORDS = ("let", "give", "first", "second", "left", "right", "star", "pair", "way", "split", "never")


def is_step(word, one, other, names, through=None):
    if word not in WORDS:
        return False
    try:
        if not are_of_one_kind(one, other, names):
            return False
    except NoKind:
        return False
    return FORTH[word](one, other, names, through) or FORTH[word](other, one, names, through)


# Programs that are told may be far deeper than Python itself compares.
def are_alike(one, other):
    ahead = [(one, other)]
    while len(ahead) > 0:
        here = ahead.pop()
        if isinstance(here[0], tuple) and isinstance(here[1], tuple):
            if len(here[0]) != len(here[1]):
                return False
            ahead.extend(list(zip(here[0], here[1])))
        elif here[0] != here[1]:
            return False
    return True


# In each of these both programs have a kind, and it is the same.
def forth_let(one, other, names, through):
    return one[0] == "let" and are_alike(other, put_in(one[2], one[1]))


def forth_give(one, other, names, through):
    return one[0] == "give" and one[1][0] == "way" and are_alike(other, put_in(one[1][2], one[2]))


def forth_first(one, other, names, through):
    return one[0] == "first" and one[1][0] == "pair" and are_alike(other, one[1][1])


def forth_second(one, other, names, through):
    return one[0] == "second" and one[1][0] == "pair" and are_alike(other, one[1][2])


def forth_left(one, other, names, through):
    return one[0] == "case" and one[1][0] == "left" and are_alike(other, put_in(one[2], one[1][2]))


def forth_right(one, other, names, through):
    return one[0] == "case" and one[1][0] == "right" and are_alike(other, put_in(one[3], one[1][2]))


# A star is of one, so the first is too.
def forth_star(one, other, names, through):
    return other == ("star",)


# What its first and second are asked of has a kind, so it is of a both.
def forth_pair(one, other, names, through):
    return other[0] == "pair" and are_alike(other, ("pair", ("first", one), ("second", one)))


# Both are of the same way, so other's A is one's.
def forth_way(one, other, names, through):
    return other[0] == "way" and are_alike(other[2], ("give", lifted(one, 1, 0), ("name", 0)))


# What stands in for the new name in a C is of its kind, so such a C has a kind as soon as one has.
def forth_split(one, other, names, through):
    if through is None or other[0] != "case" or not are_alike(one, put_in(through, other[1])):
        return False
    halves = kind_of(other[1], names)
    return are_alike(other, split(through, other[1], halves))


def split(through, asked, halves):
    deeper = lifted(through, 1, 1)
    left = put_in(deeper, ("left", halves[2], ("name", 0)))
    return ("case", asked, left, put_in(deeper, ("right", halves[1], ("name", 0))))


# It has a kind, so what it never tells is of none, and its K is the kind of both.
def forth_never(one, other, names, through):
    return other[0] == "never"


FORTH = {
    "let": forth_let,
    "give": forth_give,
    "first": forth_first,
    "second": forth_second,
    "left": forth_left,
    "right": forth_right,
    "star": forth_star,
    "pair": forth_pair,
    "way": forth_way,
    "split": forth_split,
    "never": forth_never,
}
