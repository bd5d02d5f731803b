"""Names moved and programs put in for them: point 9 of the document."""

from evenkinds.programs import inner, names_more, with_inner
from evenkinds.shelf import made_of_parts


def lifted(program, many, least):
    # So a large program that is put in under no further names is not walked.
    if many == 0:
        return program

    def changed(part, under):
        if part[0] == "name" and part[1] >= under and part[1] - under >= least:
            return ("name", part[1] + many)
        return None

    return with_parts(program, changed)


def put_in(program, other):
    copies = {}

    def changed(part, under):
        if part[0] != "name" or part[1] < under:
            return None
        if part[1] == under:
            return copy_under(copies, other, under)
        return ("name", part[1] - 1)

    return with_parts(program, changed)


# The program C, under one name more, into which the one sought is put in to tell the program: the new name stands
# wherever the one sought stood.
def taken_out(program, sought):
    copies = {}

    def changed(part, under):
        if part == copy_under(copies, sought, under):
            return ("name", under)
        if part[0] == "name" and part[1] >= under:
            return ("name", part[1] + 1)
        return None

    return with_parts(program, changed)


# Lifted once for each number of names that it comes to stand under, not once for each place.
def copy_under(copies, program, under):
    if under not in copies:
        copies[under] = lifted(program, under, 0)
    return copies[under]


# The program with what each part is changed to in its place; where that is None, its inner ones are gone through. What
# has nothing changed in it stays as it is, so that what stood in several places stays one and the same.
def with_parts(program, changed):
    def parts_of(here):
        return [] if changed(here[0], here[1]) is not None else inner_under(here)

    def made(here, parts):
        other = changed(here[0], here[1]) if len(parts) == 0 else None
        if any([part[1] for part in parts]):
            other = with_inner(here[0], [part[0] for part in parts])
        return (here[0], False) if other is None else (other, True)

    return made_of_parts((program, 0), parts_of, made)[0]


# A part with the number of names more that it stands under: its inner ones with theirs.
def inner_under(here):
    part = here[0]
    return [(one, here[1] + names_more(part, number)) for number, one in enumerate(inner(part))]


# Each part with the number of names more that it stands under.
def all_parts(program):
    found = []

    def made(here, parts):
        found.append(here)
        return None

    made_of_parts((program, 0), inner_under, made)
    return found
