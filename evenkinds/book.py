"""The book of single steps: point 12 of the document."""

from evenkinds.errors import NoKind
from evenkinds.names import lifted, put_in
from evenkinds.programs import shelved_kind, shelved_names
from evenkinds.shelf import Shelf, are_alike

WORDS = ("let", "give", "first", "second", "left", "right", "star", "pair", "way", "split", "never")


def is_step(word, one, other, names, through=None):
    shelf = Shelf()
    return is_step_over(shelved_names(names, shelf), shelf, (word, one, other, through))


# Over names known on the shelf. On one shelf, since two kinds that were told apart from one another could be too large
# to be compared.
def is_step_over(known, shelf, step):
    word = step[0]
    one = step[1]
    other = step[2]
    if word not in WORDS:
        return False
    try:
        if shelved_kind(one, list(known), shelf) != shelved_kind(other, list(known), shelf):
            return False
    except NoKind:
        return False
    if word == "split":
        return forth_split(one, other, known, shelf, step[3]) or forth_split(other, one, known, shelf, step[3])
    return FORTH[word](one, other) or FORTH[word](other, one)


# In each of these both programs have a kind, and it is the same.
def forth_let(one, other):
    return one[0] == "let" and are_alike(other, put_in(one[2], one[1]))


def forth_give(one, other):
    return one[0] == "give" and one[1][0] == "way" and are_alike(other, put_in(one[1][2], one[2]))


def forth_first(one, other):
    return one[0] == "first" and one[1][0] == "pair" and are_alike(other, one[1][1])


def forth_second(one, other):
    return one[0] == "second" and one[1][0] == "pair" and are_alike(other, one[1][2])


def forth_left(one, other):
    return one[0] == "case" and one[1][0] == "left" and are_alike(other, put_in(one[2], one[1][2]))


def forth_right(one, other):
    return one[0] == "case" and one[1][0] == "right" and are_alike(other, put_in(one[3], one[1][2]))


# A star is of one, so the first is too.
def forth_star(one, other):
    return other == ("star",)


# What its first and second are asked of has a kind, so it is of a both.
def forth_pair(one, other):
    return other[0] == "pair" and are_alike(other, ("pair", ("first", one), ("second", one)))


# Both are of the same way, so other's A is one's.
def forth_way(one, other):
    return other[0] == "way" and are_alike(other[2], ("give", lifted(one, 1, 0), ("name", 0)))


# What stands in for the new name in a C is of its kind, so such a C has a kind as soon as one has.
def forth_split(one, other, known, shelf, through):
    if through is None or other[0] != "case" or not are_alike(one, put_in(through, other[1])):
        return False
    halves = shelf.tuple_at(shelved_kind(other[1], list(known), shelf))
    return are_alike(other, split(through, other[1], halves))


def split(through, asked, halves):
    deeper = lifted(through, 1, 1)
    left = put_in(deeper, ("left", halves[2], ("name", 0)))
    return ("case", asked, left, put_in(deeper, ("right", halves[1], ("name", 0))))


# It has a kind, so what it never tells is of none, and its K is the kind of both.
def forth_never(one, other):
    return other[0] == "never"


FORTH = {
    "let": forth_let,
    "give": forth_give,
    "first": forth_first,
    "second": forth_second,
    "left": forth_left,
    "right": forth_right,
    "star": forth_star,
    "pair": forth_pair,
    "way": forth_way,
    "never": forth_never,
}
