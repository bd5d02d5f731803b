"""For each word what all others keep, and a step of the word that doesn't: point 24 of the document."""

from evenkinds.odd import odd_kind, odd_program
from evenkinds.shelf import Shelf
from evenkinds.tables import table

NONE = ("none",)
ONE = ("one",)
TWO = ("either", ("one",), ("one",))
STAR = ("star",)
ZERO = ("name", 0)
RIGHT = ("right", ("one",), ("star",))


# The table of the program in the word's odd reading, in which the steps of all other words keep the table: by number,
# with what is numbered, so that things that double and double are soon compared.
def kept(word, program, names):
    shelf = Shelf()
    told = table(odd_program(word, program, names), tuple([odd_kind(word, kind) for kind in names]))
    return (tuple([shelf.laid(thing) for thing in told]), shelf.all_laid())


# Right is never the first thing of two, so what is taken to be the first thing is seen to be another.
def unlike(word):
    told = {
        "let": (("let", RIGHT, ZERO), RIGHT, (), None),
        "give": (("give", ("way", TWO, ZERO), RIGHT), RIGHT, (), None),
        "first": (("first", ("pair", RIGHT, STAR)), RIGHT, (), None),
        "second": (("second", ("pair", STAR, RIGHT)), RIGHT, (), None),
        "left": (("case", ("left", ONE, RIGHT), ZERO, RIGHT), RIGHT, (), None),
        "right": (("case", ("right", ONE, RIGHT), RIGHT, ZERO), RIGHT, (), None),
        "star": (ZERO, STAR, (ONE,), None),
        "pair": (ZERO, ("pair", ("first", ZERO), ("second", ZERO)), (("both", ONE, ONE),), None),
        "way": (ZERO, ("way", ONE, ("give", ("name", 1), ZERO)), (("way", ONE, ONE),), None),
        "split": (ZERO, ("case", ZERO, ("left", ONE, ZERO), ("right", ONE, ZERO)), (TWO,), ZERO),
        "never": (RIGHT, ("never", TWO, ZERO), (NONE,), None),
    }
    return told[word]
