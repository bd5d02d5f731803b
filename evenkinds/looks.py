"""Looks at things, and the first ones that part two things: points 21 and 22 of the document."""

from evenkinds.kinds import gift, place_of, things
from evenkinds.shelf import Shelf


# All looks of one length are gone through in their order before any longer ones, so the first that part are found.
# What was come to before is left out, since that comes first in all looks: so things that double and double are not
# walked part by part.
def part(kind, one, other):
    shelf = Shelf()
    whole = (shelf.laid(kind), shelf.laid(one), shelf.laid(other))
    ahead = [((), whole)] if whole[1] != whole[2] else []
    before = {}
    while len(ahead) > 0:
        longer = []
        for looks, here in ahead:
            if shelf.word_at(here[0]) == "either" and shelf.word_at(here[1]) != shelf.word_at(here[2]):
                return list(looks)
            for look, inside in looks_at_both(shelf, here):
                if inside[1] != inside[2] and inside not in before:
                    before[inside] = True
                    longer.append((looks + (look,), inside))
        ahead = longer
    return None


# A kind and two unlike things of it, on the shelf: in their order each look at both with what it goes on with.
def looks_at_both(shelf, here):
    kinds = shelf.within(here[0])
    one = shelf.within(here[1])
    other = shelf.within(here[2])
    word = shelf.word_at(here[0])
    if word == "both":
        return [(("first",), (kinds[0], one[0], other[0])), (("second",), (kinds[1], one[1], other[1]))]
    if word == "either" and shelf.word_at(here[1]) == "l":
        return [(("left",), (kinds[0], one[0], other[0]))]
    if word == "either":
        return [(("right",), (kinds[1], one[0], other[0]))]
    gifts = list(zip(shelf.within(one[0]), shelf.within(other[0])))
    asked = things(shelf.tuple_at(kinds[0]))
    return [(("give", thing), (kinds[1], given[0], given[1])) for thing, given in zip(asked, gifts)]


def looked(kind, thing, looks):
    here = (kind, thing)
    for look in looks:
        here = looked_once(here[0], here[1], look)
        if here is None:
            return None
    return here


def looked_once(kind, thing, look):
    if look[0] == "first":
        return (kind[1], thing[1])
    if look[0] == "second":
        return (kind[2], thing[2])
    if look[0] == "give":
        return (kind[2], gift(kind, thing, look[1]))
    if look[0] == "left":
        return (kind[1], thing[1]) if thing[0] == "l" else None
    return (kind[2], thing[1]) if thing[0] == "r" else None


# What looks at things of the kind are sorted by: the fewest, then one by one. At one place all looks go into the same
# kind, so there a number for each is enough.
def rank(kind, looks):
    numbers = []
    here = kind
    for look in looks:
        if look[0] == "give":
            numbers.append(place_of(here[1], look[1]))
        else:
            numbers.append(0 if look[0] in ("first", "left") else 1)
        here = here[1] if look[0] in ("first", "left") else here[2]
    return (len(looks), numbers)
