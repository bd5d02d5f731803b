"""What a program tells at a row: point 10 of the document.

A way is asked only for the things that are wanted of it, for each of them once. Whatever is told gets a number by its
parts' numbers, so that what is built twice of the same parts is the same, and a thing that doubles and doubles is
never walked part by part. All goes through a list of what is still to be done, since programs that are told may be
far deeper than 60.
"""

from evenkinds.kinds import none_one_or_more, things, things_within
from evenkinds.programs import kind_of_node, noded, shelved_names, used_names
from evenkinds.shelf import Shelf, made_of_parts, taken

SIGNS = {"pair": "p", "left": "l", "right": "r"}


def told(program, row, names):
    world = World()
    held = [world.given(kind, thing) for kind, thing in zip(names, row)]
    return world.thing_at(world.told_at(world.node_for(program, names), held))


# What a program comes to, with a mark of its own: its number is known once all of it is.
class Held:
    def __init__(self, mark, word, parts):
        self.mark = mark
        self.word = word
        self.parts = parts
        self.number = None


# A way keeps its program and the things around it, and for each thing's number what it has given.
class HeldWay(Held):
    def __init__(self, mark, asked, body, around):
        Held.__init__(self, mark, "way", ())
        self.asked = asked
        self.body = body
        self.around = around
        self.gifts = {}


class World:
    def __init__(self):
        self.numbers = {}
        self.numbered_things = []
        self.shelf = Shelf()
        self.known = {}
        self.nodes = []
        self.marks = 0
        self.seen = {}
        self.soles = []
        self.ahead = []
        self.done = []

    # Kinds are wanted only where ways lie within ways: told whole, such a one is asked for very many rows.
    def node_for(self, program, names):
        node = noded(program, self.nodes)
        if node.ways > 2:
            kind_of_node(node, shelved_names(names, self.shelf), self.shelf)
        return node

    # The number of what is told, over what is held for the names.
    def told_at(self, node, held):
        self.ahead.extend([("asked whole",), ("see", node, tuple(held))])
        while len(self.ahead) > 0:
            task = self.ahead.pop()
            TASKS[task[0]](self, task)
        return self.done.pop().number

    def thing_at(self, number):
        return self.numbered_things[number]

    def held(self, word, parts):
        self.marks = self.marks + 1
        return Held(self.marks, word, parts)

    def held_way(self, asked, body, around):
        self.marks = self.marks + 1
        return HeldWay(self.marks, asked, body, around)

    def number_for(self, word, numbers):
        key = (word, numbers)
        if key not in self.numbers:
            self.numbers[key] = len(self.numbered_things)
            self.numbered_things.append(thing_of(word, tuple([self.numbered_things[one] for one in numbers])))
        return self.numbers[key]

    def given(self, kind, thing):
        def made(here, parts):
            if here[0][0] == "way":
                return self.given_way(here[0], parts)
            return self.whole_held(form_of(here[0], here[1]), tuple(parts))

        return made_of_parts((kind, thing), things_within, made)

    def whole_held(self, word, parts):
        held = self.held(word, parts)
        held.number = self.number_for(word, tuple([part.number for part in parts]))
        return held

    def given_way(self, kind, parts):
        held = self.held_way(kind[1], None, None)
        for asked, answer in zip(self.held_things(kind[1]), parts):
            held.gifts[asked.number] = answer
        held.number = self.number_for("way", tuple([part.number for part in parts]))
        return held

    def held_things(self, kind):
        number = self.shelf.laid_kind(kind)
        if number not in self.known:
            self.known[number] = [self.given(kind, thing) for thing in things(kind)]
        return self.known[number]

    # The only thing of a kind that has just one, by the kind's number; None where it has others, or isn't known.
    def sole(self, kind):
        if kind is None or kind < 0:
            return None
        while len(self.soles) <= kind:
            self.soles.append(self.sole_by_halves(len(self.soles)))
        return self.soles[kind][1]

    # Ahead of it how many things the kind has.
    def sole_by_halves(self, kind):
        word = self.shelf.word_at(kind)
        halves = [self.soles[half] for half in self.shelf.within(kind)]
        many = none_one_or_more(word, [half[0] for half in halves])
        held = [half[1] for half in halves]
        if many != 1:
            return (many, None)
        if word == "one":
            return (1, self.whole_held("star", ()))
        if word == "both":
            return (1, self.whole_held("pair", tuple(held)))
        if word == "either" and halves[0][0] == 1:
            return (1, self.whole_held("left", (held[0],)))
        if word == "either":
            return (1, self.whole_held("right", (held[1],)))
        way = self.shelf.tuple_at(kind)
        return (1, self.given_way(way, [held[1]] * len(self.held_things(way[1]))))


def form_of(kind, thing):
    if kind[0] == "one":
        return "star"
    if kind[0] == "both":
        return "pair"
    return "left" if thing[0] == "l" else "right"


def thing_of(word, parts):
    if word == "star":
        return ()
    if word == "way":
        return ("w", parts)
    return (SIGNS[word],) + parts


# What several hold, and a way, which may be asked for many things, is seen but once where the names that it speaks of
# stand for the same.
def see(world, task):
    node = task[1]
    around = task[2]
    if len(node.inside) > 0 and (node.holders > 1 or node.program[0] == "way"):
        key = (node.number, tuple([sign_of(around[name]) for name in used_names(node)]))
        if key in world.seen:
            world.done.append(world.seen[key])
            return
        world.ahead.append(("keep seen", key))
    SEEN[node.program[0]](world, node, around)


# What has the same number is the same.
def sign_of(held):
    return held.number if held.number is not None else -held.mark


def keep_seen(world, task):
    world.seen[task[1]] = world.done[-1]


def see_name(world, node, around):
    world.done.append(around[node.program[1]])


def see_star(world, node, around):
    world.done.append(world.held("star", ()))


def see_pair(world, node, around):
    world.ahead.extend([("join", "pair", 2), ("see", node.inside[1], around), ("see", node.inside[0], around)])


def see_first(world, node, around):
    world.ahead.extend([("part", 0), ("see", node.inside[0], around)])


def see_second(world, node, around):
    world.ahead.extend([("part", 1), ("see", node.inside[0], around)])


def see_side(world, node, around):
    world.ahead.extend([("join", node.program[0], 1), ("see", node.inside[0], around)])


def see_case(world, node, around):
    world.ahead.extend([("choose", node, around), ("see", node.inside[0], around)])


def see_way(world, node, around):
    sole = world.sole(node.kind)
    world.done.append(world.held_way(node.program[1], node.inside[0], around) if sole is None else sole)


def see_give(world, node, around):
    world.ahead.extend([("give",), ("see", node.inside[1], around), ("see", node.inside[0], around)])


def see_let(world, node, around):
    world.ahead.extend([("under", node.inside[1], around), ("see", node.inside[0], around)])


def see_never(world, node, around):
    world.ahead.append(("see", node.inside[0], around))


SEEN = {
    "name": see_name,
    "star": see_star,
    "pair": see_pair,
    "first": see_first,
    "second": see_second,
    "left": see_side,
    "right": see_side,
    "case": see_case,
    "way": see_way,
    "give": see_give,
    "let": see_let,
    "never": see_never,
}


def join(world, task):
    world.done.append(world.held(task[1], tuple(taken(world.done, task[2]))))


def part_of(world, task):
    world.done.append(world.done.pop().parts[task[1]])


def choose(world, task):
    held = world.done.pop()
    branch = task[1].inside[1] if held.word == "left" else task[1].inside[2]
    see_under(world, branch, held.parts[0], task[2])


def under(world, task):
    see_under(world, task[1], world.done.pop(), task[2])


def see_under(world, node, held, around):
    world.ahead.append(("see", node, (held,) + around))


def give(world, task):
    argument = world.done.pop()
    way = world.done.pop()
    world.ahead.extend([("gift", way, argument), ("whole", argument)])


def gift(world, task):
    way = task[1]
    argument = task[2]
    if argument.number in way.gifts:
        world.done.append(way.gifts[argument.number])
    else:
        world.ahead.append(("keep", way, argument.number))
        see_under(world, way.body, argument, way.around)


def keep(world, task):
    way = task[1]
    way.gifts[task[2]] = world.done[-1]


def asked_whole(world, task):
    world.ahead.append(("whole", world.done[-1]))


def gift_whole(world, task):
    world.ahead.append(("whole", world.done.pop()))


def whole(world, task):
    held = task[1]
    if held.number is not None:
        return
    world.ahead.append(("number", held))
    if held.word == "way":
        for argument in world.held_things(held.asked):
            world.ahead.extend([("gift whole",), ("gift", held, argument)])
    else:
        world.ahead.extend([("whole", part) for part in held.parts])


def set_number(world, task):
    held = task[1]
    parts = held.parts
    if held.word == "way":
        parts = [held.gifts[argument.number] for argument in world.held_things(held.asked)]
    held.number = world.number_for(held.word, tuple([part.number for part in parts]))


TASKS = {
    "see": see,
    "keep seen": keep_seen,
    "join": join,
    "part": part_of,
    "choose": choose,
    "under": under,
    "give": give,
    "gift": gift,
    "keep": keep,
    "asked whole": asked_whole,
    "gift whole": gift_whole,
    "whole": whole,
    "number": set_number,
}
