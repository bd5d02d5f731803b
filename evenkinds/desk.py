"""The desk, which is asked in texts and answers in a text: point 26 of the document."""

from evenkinds.around import surrounding
from evenkinds.between import between
from evenkinds.errors import NoKind
from evenkinds.programs import are_of_one_kind
from evenkinds.reading import read_kind, read_program
from evenkinds.writing import show_thing


def answered(kinds, one, other):
    names = tuple([read_kind(text) for text in kinds])
    first = read_program(one)
    second = read_program(other)
    if not are_of_one_kind(first, second, names):
        raise NoKind()
    row = between(first, second, names)
    if row is not None:
        steps = len(row)
        return f"alike {steps}"
    found = surrounding(first, second, names)
    things = in_brackets([show_thing(thing) for thing in found[0]])
    looks = in_brackets([show_look(look) for look in found[1]])
    return f"unlike {things} {looks}"


def in_brackets(texts):
    return "[" + ",".join(texts) + "]"


def show_look(look):
    return show_thing(look[1]) if look[0] == "give" else look[0]
