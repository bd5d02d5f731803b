"""Odd readings of programs, one for each word of the book: what point 24 of the document wants of them.

An odd reading tells for each kind another one, and for each program over names another one of that kind, form by
form: what a form is read as hangs on what its inner ones are read as and on their kinds alone. So a program that is
put in is read by itself, and a step within a program leads to the same table where it does so by itself. Each reading
is such that all steps of the book do so, but those of its own word:

- let: of an either, it tells what is behind at the first thing.
- give: a way is what it gives for the first thing.
- first: a pair of an either and another is that other alone, and its first is the first thing; second likewise.
- left: of a left nothing is left but that it is one, and inside it is taken to be the first thing; right likewise.
- star: there are two things of one.
- pair, way, split: each thing of a both, a way, an either is there twice, and both tell the same when asked.
- never: there is a thing of none, for which the first thing is told.

Where what would be left out has no things, a form is read as it stands.
"""

from evenkinds.names import lifted
from evenkinds.plain import plain_table
from evenkinds.programs import folded, kind_by_parts, new_name, noded, shelved_names
from evenkinds.shelf import Shelf

NONE = ("none",)
ONE = ("one",)
STAR = ("star",)
TWO = ("either", ("one",), ("one",))
EVEN = ("left", ("one",), ("star",))

# The kinds whose things are there twice, the forms that make such things, and those that ask them.
TWICE = {"pair": "both", "way": "way", "split": "either"}
MAKERS = {"pair": ("pair",), "way": ("way",), "split": ("left", "right")}
ASKERS = {"pair": ("first", "second"), "way": ("give",), "split": ("case",)}


def odd_kind(word, kind):
    reader = OddReader(word)
    return reader.odd(reader.shelf.laid_kind(kind))


def odd_program(word, program, names):
    reader = OddReader(word)
    shelf = reader.shelf

    def named(here, answers, number):
        return new_name(here, [answer[0] for answer in answers], number, shelf)

    def made(here, answers, known):
        kinds = [answer[0] for answer in answers]
        other = read_form(reader, here.program, [answer[1] for answer in answers], kinds)
        return (kind_by_parts(here.program, kinds, known, shelf), other)

    return folded(noded(program, []), shelved_names(names, shelf), named, made)[1]


# Kinds are told by their numbers on the shelf, and what they are read as by numbers on another: so those that double
# and double are read but once. What a kind is built of has lower numbers, so all are read in order.
class OddReader:
    def __init__(self, word):
        self.word = word
        self.shelf = Shelf()
        self.others = Shelf()
        self.readings = []
        self.inhabited = []
        self.firsts = {}

    def reading(self, kind):
        while len(self.readings) <= kind:
            self.readings.append(read_kind(self, len(self.readings)))
        return self.readings[kind]

    # The kind that it is read as.
    def odd(self, kind):
        return self.others.tuple_at(self.reading(kind))

    def odd_of(self, kind):
        return self.odd(self.shelf.laid_kind(kind))

    def has_things(self, kind):
        return self.holds_things(self.reading(kind))

    def holds_things(self, other):
        while len(self.inhabited) <= other:
            number = len(self.inhabited)
            halves = [self.inhabited[half] for half in self.others.within(number)]
            self.inhabited.append(joined_has_things(self.others.word_at(number), halves))
        return self.inhabited[other]

    # Only an either is lost whole.
    def is_lost(self, kind):
        return self.shelf.word_at(kind) == "either" and self.has_things(kind)


def joined_has_things(form, halves):
    if form == "either":
        return halves[0] or halves[1]
    if form == "both":
        return halves[0] and halves[1]
    if form == "way":
        return halves[1] or not halves[0]
    return form == "one"


# What the kind's halves are read as is known.
def read_kind(reader, kind):
    word = reader.word
    form = reader.shelf.word_at(kind)
    halves = reader.shelf.within(kind)
    if form == "none":
        return reader.others.laid_kind(ONE if word == "never" else NONE)
    if form == "one":
        return reader.others.laid_kind(TWO if word == "star" else ONE)
    if form == "both" and word == "first" and reader.is_lost(halves[0]):
        return reader.reading(halves[1])
    if form == "both" and word == "second" and reader.is_lost(halves[1]):
        return reader.reading(halves[0])
    if form == "way" and word == "give" and reader.has_things(halves[0]):
        return reader.reading(halves[1])
    return read_joined(reader, form, halves)


def read_joined(reader, form, halves):
    first = reader.reading(halves[0])
    second = reader.reading(halves[1])
    if form == "either" and reader.word == "left" and reader.has_things(halves[0]):
        first = reader.others.laid_kind(ONE)
    if form == "either" and reader.word == "right" and reader.has_things(halves[1]):
        second = reader.others.laid_kind(ONE)
    other = reader.others.built(form, first, second)
    if TWICE.get(reader.word) == form:
        other = reader.others.built("both", reader.others.laid_kind(TWO), other)
    return other


# Parts are the inner ones as they are read, kinds are those of the inner ones as they stand.
def read_form(reader, program, parts, kinds):
    other = ODDLY[reader.word](reader, program, parts, kinds)
    return read_evenly(reader, program, parts) if other is None else other


def read_evenly(reader, program, parts):
    if program[0] in ("left", "right", "way", "never"):
        return (program[0], reader.odd_of(program[1]), parts[0])
    if program[0] == "name":
        return program
    return (program[0],) + tuple(parts)


# The first thing of what the kind is read as.
def first_of(reader, kind):
    other = reader.reading(kind)
    if other not in reader.firsts:
        reader.firsts[other] = first_program(reader, other)
    return reader.firsts[other]


# A let for each kind that it is built of, so that what doubles and doubles is told but once.
def first_program(reader, last):
    wanted = {last: True}
    for other in reversed(list(range(last + 1))):
        if other in wanted:
            wanted.update(dict([(half, True) for half in halves_told(reader, other)]))
    order = sorted(wanted)
    forms = [first_form(reader, other, order[:number]) for number, other in enumerate(order)]
    answer = forms.pop()
    for form in reversed(forms):
        answer = ("let", form, answer)
    return answer


# The halves whose first things are told in the first thing.
def halves_told(reader, other):
    halves = reader.others.within(other)
    form = reader.others.word_at(other)
    if form == "either":
        return halves[:1] if reader.holds_things(halves[0]) else halves[1:]
    if form == "way":
        return halves[1:] if reader.holds_things(halves[0]) else ()
    return halves


# The first thing over names for those of the kinds ahead of it, the name 0 for the last of them.
def first_form(reader, other, ahead):
    kind = reader.others.tuple_at(other)
    names = [("name", len(ahead) - 1 - ahead.index(half)) for half in halves_told(reader, other)]
    if kind[0] == "one":
        return STAR
    if kind[0] == "both":
        return ("pair", names[0], names[1])
    if kind[0] == "way":
        return ("way", kind[1], plain_table(kind[1:2], kind[2], []) if len(names) == 0 else lifted(names[0], 1, 0))
    if reader.holds_things(reader.others.within(other)[0]):
        return ("left", kind[2], names[0])
    return ("right", kind[1], names[0])


# Each of these tells None where the form is read evenly.
def oddly_let(reader, program, parts, kinds):
    if program[0] == "let" and reader.is_lost(kinds[0]):
        return ("let", first_of(reader, kinds[0]), parts[1])
    return None


def oddly_give(reader, program, parts, kinds):
    if program[0] == "way":
        asked = reader.shelf.laid_kind(program[1])
        return ("let", first_of(reader, asked), parts[0]) if reader.has_things(asked) else None
    if program[0] == "give" and reader.has_things(reader.shelf.within(kinds[0])[0]):
        return parts[0]
    return None


# The word's own part of a pair is the one that is lost.
def oddly_part(reader, program, parts, kinds):
    lost = 0 if reader.word == "first" else 1
    if program[0] == "pair" and reader.is_lost(kinds[lost]):
        return parts[1 - lost]
    if program[0] in ("first", "second"):
        half = reader.shelf.within(kinds[0])[lost]
        if reader.is_lost(half):
            return first_of(reader, half) if program[0] == reader.word else parts[0]
    return None


# The word's own side is the one whose inside is lost. On either side the kind that stands there is the other side's.
def oddly_side(reader, program, parts, kinds):
    word = reader.word
    if program[0] == word and reader.has_things(kinds[0]):
        return (word, reader.odd_of(program[1]), STAR)
    if program[0] in ("left", "right") and program[0] != word and reader.has_things(reader.shelf.laid_kind(program[1])):
        return (program[0], ONE, parts[0])
    lost = 1 if word == "left" else 2
    if program[0] == "case":
        half = reader.shelf.within(kinds[0])[lost - 1]
        if reader.has_things(half):
            branches = [parts[0], parts[1], parts[2]]
            branches[lost] = ("let", first_of(reader, half), lifted(parts[lost], 1, 1))
            return ("case",) + tuple(branches)
    return None


def oddly_star(reader, program, parts, kinds):
    return EVEN if program[0] == "star" else None


def oddly_twice(reader, program, parts, kinds):
    if program[0] in MAKERS[reader.word]:
        return ("pair", EVEN, read_evenly(reader, program, parts))
    if program[0] in ASKERS[reader.word]:
        return (program[0], ("second", parts[0])) + tuple(parts[1:])
    return None


def oddly_never(reader, program, parts, kinds):
    return first_of(reader, reader.shelf.laid_kind(program[1])) if program[0] == "never" else None


ODDLY = {
    "let": oddly_let,
    "give": oddly_give,
    "first": oddly_part,
    "second": oddly_part,
    "left": oddly_side,
    "right": oddly_side,
    "star": oddly_star,
    "pair": oddly_twice,
    "way": oddly_twice,
    "split": oddly_twice,
    "never": oddly_never,
}
