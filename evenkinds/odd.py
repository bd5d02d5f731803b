"""Odd readings of programs, one for each word of the book: what point 24 of the document wants of them.

An odd reading tells for each kind another one, and for each program over names another one of that kind, form by
form: what a form is read as hangs on what its inner ones are read as and on their kinds alone. So a program that is
put in is read by itself, and a step within a program leads to the same table where it does so by itself. Each reading
is such that all steps of the book do so, but those of its own word:

- let: of an either, it tells what is behind at the first thing.
- give: a way is what it gives for the first thing.
- first: a pair of an either and another is that other alone, and its first is the first thing; second likewise.
- left: of a left nothing is left but that it is one, and inside it is taken to be the first thing; right likewise.
- star: there are two things of one.
- pair, way, split: each thing of a both, a way, an either is there twice, and both tell the same when asked.
- never: there is a thing of none, for which the first thing is told.

Where what would be left out has no things, a form is read as it stands.
"""

from evenkinds.kinds import built_up, joined_count
from evenkinds.names import lifted
from evenkinds.plain import plain_thing
from evenkinds.programs import folded, kind_by_parts, new_name, shelved_names
from evenkinds.shelf import Shelf

NONE = ("none",)
ONE = ("one",)
STAR = ("star",)
TWO = ("either", ("one",), ("one",))
EVEN = ("left", ("one",), ("star",))

# The kinds whose things are there twice, the forms that make such things, and those that ask them.
TWICE = {"pair": "both", "way": "way", "split": "either"}
MAKERS = {"pair": ("pair",), "way": ("way",), "split": ("left", "right")}
ASKERS = {"pair": ("first", "second"), "way": ("give",), "split": ("case",)}


def odd_kind(word, kind):
    return read_oddly(word, kind)[0]


def has_things(word, kind):
    return read_oddly(word, kind)[1]


# Only an either is lost whole: kinds that double and double are built of others, and are then not walked.
def is_lost(word, kind):
    return kind[0] == "either" and has_things(word, kind)


# The kind that it is read as, whether that has things, and the form of the kind as it stands.
def read_oddly(word, kind):
    ends = {"none": (NONE, False, "none"), "one": (ONE, True, "one")}
    if word == "star":
        ends["one"] = (TWO, True, "one")
    if word == "never":
        ends["none"] = (ONE, True, "none")
    return built_up(kind, ends, lambda form, first, second: joined_oddly(word, form, first, second))


def joined_oddly(word, form, first, second):
    has = joined_has_things(form, first[1], second[1])
    if form == "both" and word == "first" and first[1] and first[2] == "either":
        return (second[0], has, form)
    if form == "both" and word == "second" and second[1] and second[2] == "either":
        return (first[0], has, form)
    if form == "way" and word == "give" and first[1]:
        return (second[0], has, form)
    return (joined_kind(word, form, first, second), has, form)


def joined_kind(word, form, first, second):
    kind = (form, first[0], second[0])
    if form == "either" and word == "left" and first[1]:
        kind = (form, ONE, second[0])
    if form == "either" and word == "right" and second[1]:
        kind = (form, first[0], ONE)
    if TWICE.get(word) == form:
        kind = ("both", TWO, kind)
    return kind


def joined_has_things(form, first, second):
    if form == "either":
        return first or second
    if form == "both":
        return first and second
    return second or not first


def odd_program(word, program, names):
    shelf = Shelf()

    def named(here, answers, number):
        return new_name(here, [answer[0] for answer in answers], number, shelf)

    def made(here, answers, known):
        kinds = [answer[0] for answer in answers]
        parts = [answer[1] for answer in answers]
        other = read_form(word, here, parts, [shelf.kind_at(kind) for kind in kinds])
        return (kind_by_parts(here, kinds, known, shelf), other)

    return folded(program, shelved_names(names, shelf), named, made)[1]


# Parts are the inner ones as they are read, kinds are those of the inner ones as they stand.
def read_form(word, program, parts, kinds):
    other = ODDLY[word](word, program, parts, kinds)
    return read_evenly(word, program, parts) if other is None else other


def read_evenly(word, program, parts):
    if program[0] in ("left", "right", "way", "never"):
        return (program[0], odd_kind(word, program[1]), parts[0])
    if program[0] == "name":
        return program
    return (program[0],) + tuple(parts)


def first_of(word, kind):
    other = odd_kind(word, kind)
    return plain_thing(other, built_up(other, {"none": (None, 0), "one": ((), 1)}, joined_first)[0])


# The first thing with the number of things, since the things of a kind may be too many where those of its halves are.
def joined_first(form, first, second):
    return (first_joined(form, first, second), joined_count(form, first[1], second[1]))


def first_joined(form, first, second):
    if form == "either" and first[1] > 0:
        return ("l", first[0])
    if form == "either":
        return ("r", second[0])
    if form == "both":
        return ("p", first[0], second[0])
    return ("w", (second[0],) * first[1])


# Each of these tells None where the form is read evenly.
def oddly_let(word, program, parts, kinds):
    if program[0] == "let" and is_lost(word, kinds[0]):
        return ("let", first_of(word, kinds[0]), parts[1])
    return None


def oddly_give(word, program, parts, kinds):
    if program[0] == "way" and has_things(word, program[1]):
        return ("let", first_of(word, program[1]), parts[0])
    if program[0] == "give" and has_things(word, kinds[0][1]):
        return parts[0]
    return None


# The word's own part of a pair is the one that is lost.
def oddly_part(word, program, parts, kinds):
    lost = 0 if word == "first" else 1
    if program[0] == "pair" and is_lost(word, kinds[lost]):
        return parts[1 - lost]
    if program[0] in ("first", "second") and is_lost(word, kinds[0][1 + lost]):
        return first_of(word, kinds[0][1 + lost]) if program[0] == word else parts[0]
    return None


# The word's own side is the one whose inside is lost. On either side the kind that stands there is the other side's.
def oddly_side(word, program, parts, kinds):
    if program[0] == word and has_things(word, kinds[0]):
        return (word, odd_kind(word, program[1]), STAR)
    if program[0] in ("left", "right") and program[0] != word and has_things(word, program[1]):
        return (program[0], ONE, parts[0])
    lost = 1 if word == "left" else 2
    if program[0] == "case" and has_things(word, kinds[0][lost]):
        branches = [parts[0], parts[1], parts[2]]
        branches[lost] = ("let", first_of(word, kinds[0][lost]), lifted(parts[lost], 1, 1))
        return ("case",) + tuple(branches)
    return None


def oddly_star(word, program, parts, kinds):
    return EVEN if program[0] == "star" else None


def oddly_twice(word, program, parts, kinds):
    if program[0] in MAKERS[word]:
        return ("pair", EVEN, read_evenly(word, program, parts))
    if program[0] in ASKERS[word]:
        return (program[0], ("second", parts[0])) + tuple(parts[1:])
    return None


def oddly_never(word, program, parts, kinds):
    return first_of(word, program[1]) if program[0] == "never" else None


ODDLY = {
    "let": oddly_let,
    "give": oddly_give,
    "first": oddly_part,
    "second": oddly_part,
    "left": oddly_side,
    "right": oddly_side,
    "star": oddly_star,
    "pair": oddly_twice,
    "way": oddly_twice,
    "split": oddly_twice,
    "never": oddly_never,
}
