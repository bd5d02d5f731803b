"""Rows of steps walked from a program: points 13 and 14 of the document."""

from evenkinds.book import are_alike, is_step
from evenkinds.errors import NoKind, NoStep
from evenkinds.programs import at_place, inner, kind_of, names_more, replaced


def names_at(program, place, names):
    here = program
    known = names
    for number in place:
        if names_more(here, number) == 1:
            known = (new_name(here, number, known),) + known
        here = inner(here)[number]
    return known


def new_name(program, number, names):
    if program[0] == "way":
        return program[1]
    kind = kind_of(program[1], names)
    if program[0] == "let":
        return kind
    if kind[0] != "either":
        raise NoKind()
    return kind[number]


def walked(program, names, row):
    here = program
    for number, step in enumerate(row):
        if not leads_on(here, names, step):
            raise NoStep(number)
        here = replaced(here, step[0], step[3])
    return here


def leads_on(program, names, step):
    there = at_place(program, step[0])
    if there is None or not are_alike(there, step[2]):
        return False
    try:
        known = names_at(program, step[0], names)
    except NoKind:
        return False
    return is_step(step[1], step[2], step[3], known, step[4])


def reverse(row):
    return [(place, word, other, one, through) for place, word, one, other, through in reversed(row)]
