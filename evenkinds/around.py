"""The first surrounding of two programs, and programs surrounded: points 22 and 23 of the document."""

from evenkinds.looks import part, rank
from evenkinds.names import put_in
from evenkinds.plain import plain_thing
from evenkinds.programs import kind_of
from evenkinds.tables import rows, table_in
from evenkinds.worlds import World

LEFT = ("left", ("one",), ("star",))
RIGHT = ("right", ("one",), ("star",))


def surrounding(one, other, names):
    world = World()
    kind = kind_of(one, names)
    tables = list(zip(table_in(world, one, names), table_in(world, other, names)))
    best = None
    for row, told in zip(rows(names), tables):
        looks = part(kind, world.thing_at(told[0]), world.thing_at(told[1]))
        if looks is not None and (best is None or rank(kind, looks) < rank(kind, best[1])):
            best = (row, looks)
    return best


# Behind a look at a side, the case on it has all that comes behind under the name of that side; the other side tells
# right, as does all that isn't led to a left.
def surrounded(program, names, row, looks):
    here = with_row(program, names, row)
    kind = kind_of(program, names)
    sides = []
    for look in looks:
        if look[0] in ("left", "right"):
            sides.append((look[0], here))
            here = ("name", 0)
        elif look[0] == "give":
            here = ("give", here, plain_thing(kind[1], look[1]))
        else:
            here = (look[0], here)
        kind = kind[1] if look[0] in ("first", "left") else kind[2]
    answer = ("case", here, LEFT, RIGHT)
    for side, asked in reversed(sides):
        answer = ("case", asked, answer, RIGHT) if side == "left" else ("case", asked, RIGHT, answer)
    return answer


def with_row(program, names, row):
    filled = program
    for kind, thing in zip(names, row):
        filled = put_in(filled, plain_thing(kind, thing))
    return filled
