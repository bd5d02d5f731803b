"""A row from one program to another: what point 20 of the document says of two programs."""

from evenkinds.leader import lead
from evenkinds.shelf import are_alike
from evenkinds.tables import table_in
from evenkinds.walked import reverse
from evenkinds.worlds import World


def between(one, other, names):
    world = World()
    if table_in(world, one, names) != table_in(world, other, names):
        return None
    forth = lead(one, names)
    back = lead(other, names)
    # Steps that both end with lead to the plain program and straight back.
    while len(forth) > 0 and len(back) > 0 and are_same(forth[-1], back[-1]):
        forth.pop()
        back.pop()
    return forth + reverse(back)


def are_same(step, other):
    return step[0] == other[0] and are_alike(step[2], other[2]) and are_alike(step[3], other[3])
