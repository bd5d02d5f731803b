"""Plain programs of things and of tables: points 17 and 18 of the document.

What is asked is a name with the looks at it that lead to the part asked for. Names are told by level here, counted
from the outermost, which stays the same under further names. What is still to be asked is a chain: the next with the
chain behind it, or None.
"""

from evenkinds.kinds import built_up, count, none_one_or_more, things, things_within
from evenkinds.shelf import made_of_parts, taken


# All plain programs of things are closed, so one is the same wherever it stands.
def plain_thing(kind, thing):
    return made_of_parts((kind, thing), things_within, plain_by_parts)


def plain_by_parts(held, parts):
    kind = held[0]
    if kind[0] == "one":
        return ("star",)
    if kind[0] == "both":
        return ("pair", parts[0], parts[1])
    if kind[0] == "way":
        return ("way", kind[1], asking(kind[1:2], kind[2], parts))
    return ("left", kind[2], parts[0]) if held[1][0] == "l" else ("right", kind[1], parts[0])


def plain_table(names, kind, table):
    return asking(names, kind, [plain_thing(kind, thing) for thing in table])


def asked_names(names):
    chain = None
    for level, kind in enumerate(reversed(names)):
        chain = ((level, (), kind), chain)
    return chain


# The program asked: over so many names, the looks at the name of that level. A look of give holds its program.
def expression(level, looks, depth):
    program = ("name", depth - 1 - level)
    for look in looks:
        program = (look[0], program) + look[1:]
    return program


# What is asked of a one, a both or a way, ahead of what is asked behind it. What asks nothing is left out: there may be
# very many gives of ways, where in the end nothing is asked.
def opened(asked, chain):
    kind = asked[2]
    parts = []
    if kind[0] == "both":
        parts = [looked_at(asked, ("first",), kind[1]), looked_at(asked, ("second",), kind[2])]
    if kind[0] == "way" and not asks_nothing(kind):
        parts = [looked_at(asked, ("give", plain_thing(kind[1], thing)), kind[2]) for thing in things(kind[1])]
    for part in reversed(parts):
        if not asks_nothing(part[2]):
            chain = (part, chain)
    return chain


# Where nothing is asked of an expression of the kind, the kind has one thing.
def asks_nothing(kind):
    return not built_up(kind, {"none": (True, False), "one": (False, True)}, joined_asking)[0]


# The plain program of the only thing of a kind that has just one; None for another kind.
def plain_of_one(kind):
    return made_of_parts(kind, lambda here: here[1:], one_by_parts)[1]


# Ahead of it how many things the kind has.
def one_by_parts(kind, parts):
    many = none_one_or_more(kind[0], [part[0] for part in parts])
    inside = [part[1] for part in parts]
    if many != 1:
        return (many, None)
    if kind[0] == "one":
        return (1, ("star",))
    if kind[0] == "both":
        return (1, ("pair", inside[0], inside[1]))
    if kind[0] == "either":
        return (1, ("left", kind[2], inside[0]) if inside[0] is not None else ("right", kind[1], inside[1]))
    return (1, ("way", kind[1], asking(kind[1:2], kind[2], [inside[1]] * count(kind[1]))))


# Whether something is asked, and whether there are things.
def joined_asking(word, first, second):
    if word == "either":
        return (True, first[1] or second[1])
    if word == "both":
        return (first[0] or second[0], first[1] and second[1])
    return (first[1] and second[0], second[1] or not first[1])


def looked_at(asked, look, kind):
    return (asked[0], asked[1] + (look,), kind)


# All names are asked, and where the answers are a row, its program stands. Plain programs may be far deeper than what
# is handed in, so this goes through lists and not by calls in calls: what is ahead, the last of it first, and the
# programs that are done. From left to right the rows come in order, so programs are taken from the front, which is the
# end of the list.
def asking(names, kind, programs):
    left = list(reversed(programs))
    done = []
    ahead = [("ask", asked_names(names), len(names))]
    while len(ahead) > 0:
        task = ahead.pop()
        if task[0] == "join":
            done.append(task[1] + tuple(taken(done, 2)))
            continue
        asked = next_asked(task[1])
        depth = task[2]
        if asked is None:
            done.append(left.pop())
            continue
        here = expression(asked[0][0], asked[0][1], depth)
        if asked[0][2][0] == "none":
            done.append(("never", kind, here))
        else:
            branches = [("ask", ((depth, (), half), asked[1]), depth + 1) for half in asked[0][2][1:]]
            ahead.extend([("join", ("case", here)), branches[1], branches[0]])
    return done[0]


# The chain from the next of a none or an either on.
def next_asked(chain):
    while chain is not None and chain[0][2][0] not in ("none", "either"):
        chain = opened(chain[0], chain[1])
    return chain
