"""What a program tells at a row: point 10 of the document.

A way is asked only for the things that are wanted of it, for each of them once. Whatever is told gets a number by its
parts' numbers, so that what is built twice of the same parts is the same, and a thing that doubles and doubles is
never walked part by part. All goes through a list of what is still to be done, since programs that are told may be
far deeper than 60.
"""

from evenkinds.kinds import things
from evenkinds.names import taken

SIGNS = {"pair": "p", "left": "l", "right": "r"}


def told(program, row, names):
    return World().told_at(program, row, names)


# What a program comes to: its number is known once all of it is.
class Held:
    def __init__(self, word, parts):
        self.word = word
        self.parts = parts
        self.number = None


# A way keeps its program and the things around it, and for each thing's number what it has given.
class HeldWay(Held):
    def __init__(self, asked, body, around):
        Held.__init__(self, "way", ())
        self.asked = asked
        self.body = body
        self.around = around
        self.gifts = {}


class World:
    def __init__(self):
        self.numbers = {}
        self.numbered_things = []
        self.known = {}
        self.ahead = []
        self.done = []

    def told_at(self, program, row, names):
        around = tuple([self.given(kind, thing) for kind, thing in zip(names, row)])
        self.ahead.extend([("asked whole",), ("see", program, around)])
        while len(self.ahead) > 0:
            task = self.ahead.pop()
            TASKS[task[0]](self, task)
        return self.numbered_things[self.done.pop().number]

    def number_for(self, word, numbers):
        key = (word, numbers)
        if key not in self.numbers:
            self.numbers[key] = len(self.numbered_things)
            self.numbered_things.append(thing_of(word, tuple([self.numbered_things[one] for one in numbers])))
        return self.numbers[key]

    def given(self, kind, thing):
        if kind[0] == "way":
            return self.given_way(kind, thing)
        held = Held("star", ())
        if kind[0] == "both":
            held = Held("pair", (self.given(kind[1], thing[1]), self.given(kind[2], thing[2])))
        elif kind[0] == "either" and thing[0] == "l":
            held = Held("left", (self.given(kind[1], thing[1]),))
        elif kind[0] == "either":
            held = Held("right", (self.given(kind[2], thing[1]),))
        held.number = self.number_for(held.word, tuple([part.number for part in held.parts]))
        return held

    def given_way(self, kind, thing):
        held = HeldWay(kind[1], None, None)
        numbers = []
        for asked, gift in zip(self.held_things(kind[1]), thing[1]):
            answer = self.given(kind[2], gift)
            held.gifts[asked.number] = answer
            numbers.append(answer.number)
        held.number = self.number_for("way", tuple(numbers))
        return held

    def held_things(self, kind):
        if kind not in self.known:
            self.known[kind] = [self.given(kind, thing) for thing in things(kind)]
        return self.known[kind]


def thing_of(word, parts):
    if word == "star":
        return ()
    if word == "way":
        return ("w", parts)
    return (SIGNS[word],) + parts


def see(world, task):
    SEEN[task[1][0]](world, task[1], task[2])


def see_name(world, program, around):
    world.done.append(around[program[1]])


def see_star(world, program, around):
    world.done.append(Held("star", ()))


def see_pair(world, program, around):
    world.ahead.extend([("join", "pair", 2), ("see", program[2], around), ("see", program[1], around)])


def see_first(world, program, around):
    world.ahead.extend([("part", 0), ("see", program[1], around)])


def see_second(world, program, around):
    world.ahead.extend([("part", 1), ("see", program[1], around)])


def see_side(world, program, around):
    world.ahead.extend([("join", program[0], 1), ("see", program[2], around)])


def see_case(world, program, around):
    world.ahead.extend([("choose", program, around), ("see", program[1], around)])


def see_way(world, program, around):
    world.done.append(HeldWay(program[1], program[2], around))


def see_give(world, program, around):
    world.ahead.extend([("give",), ("see", program[2], around), ("see", program[1], around)])


def see_let(world, program, around):
    world.ahead.extend([("under", program[2], around), ("see", program[1], around)])


def see_never(world, program, around):
    world.ahead.append(("see", program[2], around))


SEEN = {
    "name": see_name,
    "star": see_star,
    "pair": see_pair,
    "first": see_first,
    "second": see_second,
    "left": see_side,
    "right": see_side,
    "case": see_case,
    "way": see_way,
    "give": see_give,
    "let": see_let,
    "never": see_never,
}


def join(world, task):
    world.done.append(Held(task[1], tuple(taken(world.done, task[2]))))


def part_of(world, task):
    world.done.append(world.done.pop().parts[task[1]])


def choose(world, task):
    held = world.done.pop()
    branch = task[1][2] if held.word == "left" else task[1][3]
    world.ahead.append(("see", branch, (held.parts[0],) + task[2]))


def under(world, task):
    world.ahead.append(("see", task[1], (world.done.pop(),) + task[2]))


def give(world, task):
    argument = world.done.pop()
    way = world.done.pop()
    world.ahead.extend([("gift", way, argument), ("whole", argument)])


def gift(world, task):
    way = task[1]
    argument = task[2]
    if argument.number in way.gifts:
        world.done.append(way.gifts[argument.number])
    else:
        world.ahead.extend([("keep", way, argument.number), ("see", way.body, (argument,) + way.around)])


def keep(world, task):
    way = task[1]
    way.gifts[task[2]] = world.done[-1]


def asked_whole(world, task):
    world.ahead.append(("whole", world.done[-1]))


def gift_whole(world, task):
    world.ahead.append(("whole", world.done.pop()))


def whole(world, task):
    held = task[1]
    if held.number is not None:
        return
    world.ahead.append(("number", held))
    if held.word == "way":
        for argument in world.held_things(held.asked):
            world.ahead.extend([("gift whole",), ("gift", held, argument)])
    else:
        world.ahead.extend([("whole", part) for part in held.parts])


def set_number(world, task):
    held = task[1]
    parts = held.parts
    if held.word == "way":
        parts = [held.gifts[argument.number] for argument in world.held_things(held.asked)]
    held.number = world.number_for(held.word, tuple([part.number for part in parts]))


TASKS = {
    "see": see,
    "join": join,
    "part": part_of,
    "choose": choose,
    "under": under,
    "give": give,
    "gift": gift,
    "keep": keep,
    "asked whole": asked_whole,
    "gift whole": gift_whole,
    "whole": whole,
    "number": set_number,
}
