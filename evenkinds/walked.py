"""Rows of steps walked from a program: points 13 and 14 of the document."""

from evenkinds.book import is_step_over
from evenkinds.errors import NoKind, NoStep
from evenkinds.programs import at_place, inner, names_more, new_name, replaced, shelved_kind, shelved_names
from evenkinds.shelf import Shelf, are_alike


def names_at(program, place, names):
    shelf = Shelf()
    known = known_at(program, place, shelved_names(names, shelf), shelf)
    return tuple([shelf.tuple_at(kind) for kind in reversed(known[len(names):])]) + names


# The kinds of the names at a place, on the shelf, the name 0 last, by those of the names at the whole.
def known_at(program, place, names, shelf):
    here = program
    known = list(names)
    for number in place:
        if names_more(here, number) == 1:
            kinds = [] if here[0] == "way" else [shelved_kind(here[1], list(known), shelf)]
            known.append(new_name(here, kinds, number, shelf))
        here = inner(here)[number]
    return known


def walked(program, names, row):
    shelf = Shelf()
    known = shelved_names(names, shelf)
    here = program
    for number, step in enumerate(row):
        if not leads_on(here, known, shelf, step):
            raise NoStep(number)
        here = replaced(here, step[0], step[3])
    return here


def leads_on(program, names, shelf, step):
    there = at_place(program, step[0])
    if there is None or not are_alike(there, step[2]):
        return False
    try:
        known = known_at(program, step[0], names, shelf)
    except NoKind:
        return False
    return is_step_over(known, shelf, step[1:])


def reverse(row):
    return [(place, word, other, one, through) for place, word, one, other, through in reversed(row)]
