"""Rows of names and tables of programs: points 10 and 11 of the document."""

from evenkinds.kinds import things
from evenkinds.worlds import World


def rows(names):
    answer = [()]
    for kind in names:
        answer = longer_rows(answer, things(kind))
    return answer


def longer_rows(shorter, choices):
    answer = []
    for row in shorter:
        answer.extend([row + (choice,) for choice in choices])
    return answer


def table(program, names):
    return table_in(World(), program, names)


# In one world for several tables: what is the same in them is then one and the same, and soon compared.
def table_in(world, program, names):
    return [world.told_at(program, row, names) for row in rows(names)]
