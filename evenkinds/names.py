"""Names moved and programs put in for them: point 9 of the document."""

from evenkinds.programs import inner, names_more, with_inner


def lifted(program, many, least):
    # So a large program that is put in under no further names is not walked.
    if many == 0:
        return program

    def changed(part, under):
        if part[0] == "name" and part[1] >= under and part[1] - under >= least:
            return ("name", part[1] + many)
        return None

    return with_parts(program, changed)


def put_in(program, other):
    wanted = [under for part, under, unchanged in all_parts(program) if part == ("name", under)]
    copies = copies_under(other, wanted)

    def changed(part, under):
        if part[0] != "name" or part[1] < under:
            return None
        if part[1] == under:
            return copies[under]
        return ("name", part[1] - 1)

    return with_parts(program, changed)


# The program C, under one name more, into which the one sought is put in to tell the program: the new name stands
# wherever the one sought stood.
def taken_out(program, sought):
    copies = copies_under(sought, [under for part, under, unchanged in all_parts(program)])

    def changed(part, under):
        if part == copies[under]:
            return ("name", under)
        if part[0] == "name" and part[1] >= under:
            return ("name", part[1] + 1)
        return None

    return with_parts(program, changed)


# Lifted once for each number of names that it comes to stand under, not once for each place.
def copies_under(program, unders):
    copies = {}
    for under in unders:
        if under not in copies:
            copies[under] = lifted(program, under, 0)
    return copies


# The program with what each part is changed to in its place; where that is None, its inner ones are gone through.
def with_parts(program, changed):
    done = []
    for part, under, other in reversed(parts_under(program, changed)):
        if other is not None:
            done.append(other)
        else:
            done.append(with_inner(part, taken(done, len(inner(part)))))
    return done[0]


def taken(done, many):
    parts = []
    for number in range(many):
        parts.append(done.pop())
    parts.reverse()
    return parts


# Each part with the number of names more that it stands under and what it is changed to, ahead of its inner ones, the
# last of them first: so, walked from behind, the inner ones are done in order and ahead of what they are in. Programs
# that are told may be far deeper than 60, so this goes through a list and not by calls in calls.
def parts_under(program, changed):
    order = []
    ahead = [(program, 0)]
    while len(ahead) > 0:
        here = ahead.pop()
        part = here[0]
        other = changed(part, here[1])
        order.append((part, here[1], other))
        if other is None:
            ahead.extend([(one, here[1] + names_more(part, number)) for number, one in enumerate(inner(part))])
    return order


def all_parts(program):
    return parts_under(program, lambda part, under: None)
