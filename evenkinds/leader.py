"""A program led to the plain program of its table: what point 20 of the document says of one program.

All names are asked as the plain program asks them, so that in the end a closed program is left for each row, with the
plain programs of the row's things in the names' places; that is run, and what stands within what it comes to is led
in turn. A name of a one, a both or a way is opened first: in a let around all that speaks of it, it is led to where
it is looked at in every way, and put in again. What is asked then stands there word for word, and can be taken out.
A program of a kind that has but one thing is led to its plain program first: that speaks of no names, and is not led
again for each row.
"""

from evenkinds.book import split
from evenkinds.names import lifted, put_in, taken_out
from evenkinds.plain import asked_names, asks_nothing, expression, opened, plain_of_one
from evenkinds.programs import at_place, kind_of, replaced
from evenkinds.running import going_on
from evenkinds.shelf import are_alike
from evenkinds.walked import reverse


def lead(program, names):
    leader = Leader(program)
    begin(leader, (), len(names), asked_names(names), kind_of(program, names), "finish")
    return row_of(leader)


def row_of(leader):
    while len(leader.ahead) > 0:
        task = leader.ahead.pop()
        TASKS[task[0]](leader, task[1], task[2], task)
    return leader.row


class Leader:
    def __init__(self, program):
        self.program = program
        self.row = []
        self.ahead = []

    def there(self, place):
        return at_place(self.program, place)

    def go(self, place, word, other, through):
        self.row.append((place, word, self.there(place), other, through))
        self.program = replaced(self.program, place, other)


def begin(leader, place, depth, chain, kind, last):
    if plain_of_one(kind) is not None:
        leader.ahead.extend([("ask", place, depth, chain, kind, "leave"), ("settle", place, depth, kind)])
    else:
        leader.ahead.append(("ask", place, depth, chain, kind, last))


# At the place, over so many names, stands a program of the kind, in which the chain is to be asked. The last is what
# is done with the program where nothing is left of the chain.
def ask(leader, place, depth, task):
    chain = task[3]
    kind = task[4]
    last = task[5]
    if chain is None:
        leader.ahead.append((last, place, depth, kind))
        return
    asked = chain[0]
    here = expression(asked[0], asked[1], depth)
    if asked[2][0] == "none":
        leader.go(place, "never", ("never", kind, here), None)
    elif asked[2][0] == "either":
        through = taken_out(leader.there(place), here)
        leader.go(place, "split", split(through, here, asked[2]), through)
        for number in (2, 1):
            behind = ((depth, (), asked[2][number]), chain[1])
            leader.ahead.append(("ask", place + (number,), depth + 1, behind, kind, last))
    else:
        leader.ahead.append(("ask", place, depth, opened(asked, chain[1]), kind, last))
        if asked[1] == ():
            put_around(leader, place, depth, asked)


# A name that the program doesn't speak of is not opened, and one that is the whole program needs no let.
def put_around(leader, place, depth, asked):
    here = expression(asked[0], asked[1], depth)
    through = taken_out(leader.there(place), here)
    if through == ("name", 0):
        leader.ahead.append(("open", place, depth, asked[2]))
    elif not are_alike(through, lifted(leader.there(place), 1, 0)):
        leader.go(place, "let", ("let", here, through), None)
        leader.ahead.extend([("put in", place, depth), ("open", place + (0,), depth, asked[2])])


def put_in_again(leader, place, depth, task):
    here = leader.there(place)
    leader.go(place, "let", put_in(here[2], here[1]), None)


# At the place stands a look at a name. One at an either or a none stays as it is.
def open_up(leader, place, depth, task):
    here = leader.there(place)
    kind = task[3]
    if asks_nothing(kind):
        leader.ahead.append(("settle", place, depth, kind))
    elif kind[0] == "both":
        leader.go(place, "pair", ("pair", ("first", here), ("second", here)), None)
        leader.ahead.extend([("open", place + (1,), depth, kind[2]), ("open", place + (0,), depth, kind[1])])
    elif kind[0] == "way":
        leader.go(place, "way", ("way", kind[1], ("give", lifted(here, 1, 0), ("name", 0))), None)
        chain = ((depth, (), kind[1]), None)
        leader.ahead.append(("ask", place + (0,), depth + 1, chain, kind[2], "open"))


# At the place stands any program of a kind that has but one thing.
def settle(leader, place, depth, task):
    here = leader.there(place)
    kind = task[3]
    if are_alike(here, plain_of_one(kind)):
        return
    if kind[0] == "one":
        leader.go(place, "star", ("star",), None)
    elif kind[0] == "both":
        if here[0] != "pair":
            leader.go(place, "pair", ("pair", ("first", here), ("second", here)), None)
        leader.ahead.extend([("settle", place + (1,), depth, kind[2]), ("settle", place + (0,), depth, kind[1])])
    elif kind[0] == "way":
        if here[0] != "way":
            leader.go(place, "way", ("way", kind[1], ("give", lifted(here, 1, 0), ("name", 0))), None)
        begin(leader, place + (0,), depth + 1, ((depth, (), kind[1]), None), kind[2], "leave")
    else:
        settle_either(leader, place, depth, kind)


# One side has no things. A program that doesn't come to the other one is split; then both branches are led to the plain
# program, which is what the split tells backwards.
def settle_either(leader, place, depth, kind):
    here = run_at(leader, place)
    side = 1 if plain_of_one(kind)[0] == "left" else 2
    if here[0] == ("left", "right")[side - 1]:
        leader.ahead.append(("settle", place + (0,), depth, kind[side]))
        return
    leader.go(place, "split", split(("name", 0), here, kind), ("name", 0))
    leader.ahead.append(("join", place, depth, kind))
    leader.ahead.append(("ask", place + (3 - side,), depth + 1, ((depth, (), kind[3 - side]), None), kind, "leave"))
    leader.ahead.append(("settle", place + (side, 0), depth + 1, kind[side]))


# In the branch without things stands what the plain program, and any other, is led to by asking its name.
def join_branches(leader, place, depth, task):
    kind = task[3]
    plain = plain_of_one(kind)
    side = 2 if plain[0] == "left" else 1
    other = Leader(plain)
    other.ahead.append(("ask", (), depth + 1, ((depth, (), kind[side]), None), kind, "leave"))
    for step in reverse(row_of(other)):
        leader.go(place + (side,) + step[0], step[1], step[3], step[4])
    leader.go(place, "split", plain, plain)


# At the place stands a plain program.
def leave(leader, place, depth, task):
    pass


# At the place stands a closed program.
def finish(leader, place, depth, task):
    kind = task[3]
    if asks_nothing(kind):
        leader.ahead.append(("settle", place, depth, kind))
        return
    here = run_at(leader, place)
    if here[0] == "way":
        begin(leader, place + (0,), depth + 1, ((depth, (), kind[1]), None), kind[2], "finish")
    elif here[0] == "pair":
        leader.ahead.extend([("finish", place + (1,), depth, kind[2]), ("finish", place + (0,), depth, kind[1])])
    else:
        leader.ahead.append(("finish", place + (0,), depth, kind[1] if here[0] == "left" else kind[2]))


def run_at(leader, place):
    step = going_on(leader.there(place))
    while step is not None:
        leader.go(place + step[0], step[1], step[3], None)
        step = going_on(leader.there(place))
    return leader.there(place)


TASKS = {
    "ask": ask,
    "put in": put_in_again,
    "open": open_up,
    "settle": settle,
    "join": join_branches,
    "leave": leave,
    "finish": finish,
}
