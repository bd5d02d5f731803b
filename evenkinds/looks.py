"""Looks at things, and the first ones that part two things: points 21 and 22 of the document."""

from evenkinds.kinds import gift, things


# All looks of one length are gone through in their order before any longer ones, so the first that part are found.
def part(kind, one, other):
    ahead = [((), kind, one, other)]
    while len(ahead) > 0:
        for looks, here, first, second in ahead:
            if here[0] == "either" and first[0] != second[0]:
                return list(looks)
        ahead = looks_longer(ahead)
    return None


# Alike things don't part. What is the same as the one ahead of it is left out, since that comes first in all looks:
# so things that double and double are not walked part by part.
def looks_longer(shorter):
    longer = []
    for looks, kind, one, other in shorter:
        for look, inside, first, second in looks_at_both(kind, one, other):
            if first != second and (len(longer) == 0 or longer[-1][1:] != (inside, first, second)):
                longer.append((looks + (look,), inside, first, second))
    return longer


# In their order: each look at both with the kind and the two things that it goes on with.
def looks_at_both(kind, one, other):
    if kind[0] == "both":
        return [(("first",), kind[1], one[1], other[1]), (("second",), kind[2], one[2], other[2])]
    if kind[0] == "either" and one[0] == "l":
        return [(("left",), kind[1], one[1], other[1])]
    if kind[0] == "either":
        return [(("right",), kind[2], one[1], other[1])]
    if kind[0] == "way":
        both = list(zip(one[1], other[1]))
        return [(("give", thing), kind[2], here[0], here[1]) for thing, here in zip(things(kind[1]), both)]
    return []


def looked(kind, thing, looks):
    here = (kind, thing)
    for look in looks:
        here = looked_once(here[0], here[1], look)
        if here is None:
            return None
    return here


def looked_once(kind, thing, look):
    if look[0] == "first":
        return (kind[1], thing[1])
    if look[0] == "second":
        return (kind[2], thing[2])
    if look[0] == "give":
        return (kind[2], gift(kind, thing, look[1]))
    if look[0] == "left":
        return (kind[1], thing[1]) if thing[0] == "l" else None
    return (kind[2], thing[1]) if thing[0] == "r" else None


# What looks at things of the kind are sorted by: the fewest, then one by one. At one place all looks go into the same
# kind, so there a number for each is enough.
def rank(kind, looks):
    numbers = []
    here = kind
    for look in looks:
        if look[0] == "give":
            numbers.append(things(here[1]).index(look[1]))
        else:
            numbers.append(0 if look[0] in ("first", "left") else 1)
        here = here[1] if look[0] in ("first", "left") else here[2]
    return (len(looks), numbers)
