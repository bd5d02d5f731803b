"""Plain programs of things and of tables: points 17 and 18 of the document.

What is asked is a name with the looks at it that lead to the part asked for. Names are told by level here, counted
from the outermost, which stays the same under further names. What is still to be asked is a chain: the next with the
chain behind it, or None.
"""

from evenkinds.kinds import things
from evenkinds.names import taken


def plain_thing(kind, thing):
    return built([("thing", kind, thing)])


def plain_table(names, kind, table):
    left = list(table)
    left.reverse()
    return built([("ask", asked_names(names), len(names), kind, left)])


def asked_names(names):
    chain = None
    for level, kind in enumerate(reversed(names)):
        chain = ((level, (), kind), chain)
    return chain


# The program asked: over so many names, the looks at the name of that level. A look of give holds its program.
def expression(level, looks, depth):
    program = ("name", depth - 1 - level)
    for look in looks:
        program = (look[0], program) + look[1:]
    return program


# What is asked of a one, a both or a way, ahead of what is asked behind it.
def opened(asked, chain):
    kind = asked[2]
    parts = []
    if kind[0] == "both":
        parts = [looked_at(asked, ("first",), kind[1]), looked_at(asked, ("second",), kind[2])]
    if kind[0] == "way":
        parts = [looked_at(asked, ("give", plain_thing(kind[1], thing)), kind[2]) for thing in things(kind[1])]
    for part in reversed(parts):
        chain = (part, chain)
    return chain


def looked_at(asked, look, kind):
    return (asked[0], asked[1] + (look,), kind)


# Plain programs may be far deeper than what is handed in, so this goes through lists and not by calls in calls: what
# is ahead, the last of it first, and the programs that are done.
def built(ahead):
    done = []
    while len(ahead) > 0:
        task = ahead.pop()
        if task[0] == "join":
            done.append(task[1] + tuple(taken(done, task[2])))
        elif task[0] == "thing":
            ahead.extend(tasks_for_thing(task[1], task[2]))
        else:
            ahead.extend(tasks_for_asked(task[1], task[2], task[3], task[4]))
    return done[0]


def tasks_for_thing(kind, thing):
    if kind[0] == "one":
        return [("join", ("star",), 0)]
    if kind[0] == "both":
        return [("join", ("pair",), 2), ("thing", kind[2], thing[2]), ("thing", kind[1], thing[1])]
    if kind[0] == "way":
        left = list(thing[1])
        left.reverse()
        return [("join", ("way", kind[1]), 1), ("ask", asked_names(kind[1:2]), 1, kind[2], left)]
    if thing[0] == "l":
        return [("join", ("left", kind[2]), 1), ("thing", kind[1], thing[1])]
    return [("join", ("right", kind[1]), 1), ("thing", kind[2], thing[1])]


# The rows come from left to right in order, so what is left of the table is taken from its front, which is the end of
# the list.
def tasks_for_asked(chain, depth, kind, left):
    while chain is not None:
        asked = chain[0]
        chain = chain[1]
        word = asked[2][0]
        if word == "none":
            return [("join", ("never", kind, expression(asked[0], asked[1], depth)), 0)]
        if word == "either":
            branches = [("ask", ((depth, (), half), chain), depth + 1, kind, left) for half in asked[2][1:]]
            return [("join", ("case", expression(asked[0], asked[1], depth)), 2), branches[1], branches[0]]
        chain = opened(asked, chain)
    return [("thing", kind, left.pop())]
