"""Names moved and programs put in for them: point 9 of the document."""

from evenkinds.programs import inner, names_more, with_inner


def lifted(program, many, least):
    def moved(number, under):
        if number >= under and number - under >= least:
            return ("name", number + many)
        return ("name", number)

    return with_names(program, moved)


def put_in(program, other):
    copies = copies_for(program, other)

    def moved(number, under):
        if number < under:
            return ("name", number)
        if number == under:
            return copies[under]
        return ("name", number - 1)

    return with_names(program, moved)


# Lifted once for each number of names that it comes to stand under, not once for each name it takes the place of.
def copies_for(program, other):
    copies = {}
    for part, under in parts_under(program):
        if part[0] == "name" and part[1] == under and under not in copies:
            copies[under] = lifted(other, under, 0)
    return copies


def with_names(program, moved):
    done = []
    for part, under in reversed(parts_under(program)):
        if part[0] == "name":
            done.append(moved(part[1], under))
        else:
            done.append(with_inner(part, taken(done, len(inner(part)))))
    return done[0]


def taken(done, many):
    parts = []
    for number in range(many):
        parts.append(done.pop())
    parts.reverse()
    return parts


# Each part with the number of names more that it stands under, ahead of its inner ones, the last of them first: so,
# walked from behind, the inner ones are done in order and ahead of what they are in. Programs that are told may be
# far deeper than 60, so this goes through a list and not by calls in calls.
def parts_under(program):
    order = []
    ahead = [(program, 0)]
    while len(ahead) > 0:
        here = ahead.pop()
        order.append(here)
        part = here[0]
        ahead.extend([(one, here[1] + names_more(part, number)) for number, one in enumerate(inner(part))])
    return order
