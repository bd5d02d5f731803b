"""Rows of names and tables of programs: points 10 and 11 of the document."""

from evenkinds.kinds import things
from evenkinds.worlds import World


def rows(names):
    return rows_of([things(kind) for kind in names])


def rows_of(choices):
    answer = [()]
    for choice in choices:
        answer = longer_rows(answer, choice)
    return answer


def longer_rows(shorter, choices):
    answer = []
    for row in shorter:
        answer.extend([row + (choice,) for choice in choices])
    return answer


def table(program, names):
    world = World()
    return [world.thing_at(number) for number in table_in(world, program, names)]


# By number: in one world for several tables, what is the same in them has the same number.
def table_in(world, program, names):
    node = world.node_for(program, names)
    return [world.told_at(node, row) for row in rows_of([world.held_things(kind) for kind in names])]
