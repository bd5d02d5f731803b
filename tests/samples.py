"""Kinds and programs to test with, and plain second answers to what the program is asked."""

import itertools
import random

NONE = ("none",)
ONE = ("one",)


def either(a, b):
    return ("either", a, b)


def both(a, b):
    return ("both", a, b)


def way(a, b):
    return ("way", a, b)


TWO = either(ONE, ONE)
THREE = either(ONE, TWO)
FOUR = both(TWO, TWO)
FIVE = either(ONE, FOUR)
TEN = both(TWO, FIVE)
HUNDRED = both(TEN, TEN)
# As many things as two to the power of ten thousand.
VAST = way(HUNDRED, way(HUNDRED, TWO))


def name(number):
    return ("name", number)


STAR = ("star",)


def small_kinds(deep):
    """All kinds nested at most so deep."""
    if deep == 1:
        return [NONE, ONE]
    beneath = small_kinds(deep - 1)
    joined = [(word, a, b) for word in ("either", "both", "way") for a in beneath for b in beneath]
    return beneath + [kind for kind in joined if kind not in beneath]


def things_again(kind):
    """The things of a kind in order, by the words of [4]."""
    if kind == NONE:
        return []
    if kind == ONE:
        return [()]
    first, second = things_again(kind[1]), things_again(kind[2])
    if kind[0] == "either":
        return [("l", a) for a in first] + [("r", b) for b in second]
    if kind[0] == "both":
        return [("p", a, b) for a in first for b in second]
    return [("w", row) for row in itertools.product(second, repeat=len(first))]


def parts_again(program):
    """The inner ones by the words of [5]."""
    word = program[0]
    if word in ("name", "star"):
        return []
    if word in ("left", "right", "way", "never"):
        return [program[2]]
    return list(program[1:])


def size(program):
    return 1 + sum(size(part) for part in parts_again(program))


def depth(program):
    return 1 + max((depth(part) for part in parts_again(program)), default=0)


def places(program):
    answer = [()]
    for number, part in enumerate(parts_again(program)):
        answer.extend((number,) + place for place in places(part))
    return answer


def kind_again(program, names):
    """The kind by the words of [8], or None where there is none."""
    word = program[0]
    if word == "name":
        return names[program[1]] if program[1] < len(names) else None
    if word == "star":
        return ONE
    if word == "way":
        told = kind_again(program[2], (program[1],) + names)
        return None if told is None else way(program[1], told)
    if word in ("left", "right", "never"):
        told = kind_again(program[2], names)
        if told is None:
            return None
        if word == "left":
            return either(told, program[1])
        if word == "right":
            return either(program[1], told)
        return program[1] if told == NONE else None
    told = kind_again(program[1], names)
    if told is None:
        return None
    if word == "let":
        return kind_again(program[2], (told,) + names)
    if word in ("first", "second"):
        return told[("first", "second").index(word) + 1] if told[0] == "both" else None
    if word == "case":
        if told[0] != "either":
            return None
        left = kind_again(program[2], (told[1],) + names)
        return left if left == kind_again(program[3], (told[2],) + names) else None
    other = kind_again(program[2], names)
    if other is None:
        return None
    if word == "pair":
        return both(told, other)
    return told[2] if told[0] == "way" and told[1] == other else None


class Maker:
    """Makes programs of a kind, always the same ones for the same seed."""

    KINDS = (NONE, ONE, TWO, either(TWO, ONE), both(ONE, TWO), way(TWO, ONE), way(ONE, TWO), FOUR)

    def __init__(self, seed):
        self.chance = random.Random(seed)

    def kind(self, deep=3):
        if deep == 1 or self.chance.random() < 0.3:
            return self.chance.choice((NONE, ONE, ONE))
        word = self.chance.choice(("either", "both", "way"))
        return (word, self.kind(deep - 1), self.kind(deep - 1))

    def of_kind(self, kind, names, deep):
        """A program of the kind over the names, which hold the kind none, so that there is always one."""
        plain = [name(number) for number, one in enumerate(names) if one == kind]
        if deep <= 1:
            if plain:
                return self.chance.choice(plain)
            return ("never", kind, name(names.index(NONE)))
        if plain and self.chance.random() < 0.15:
            return self.chance.choice(plain)
        builders = [self.first, self.second, self.case, self.give, self.let, self.never]
        builders += [self.own] * 4
        return self.chance.choice(builders)(kind, names, deep)

    def own(self, kind, names, deep):
        if kind == NONE:
            return self.let(kind, names, deep)
        if kind == ONE:
            return STAR
        if kind[0] == "both":
            return ("pair", self.of_kind(kind[1], names, deep - 1), self.of_kind(kind[2], names, deep - 1))
        if kind[0] == "way":
            return ("way", kind[1], self.of_kind(kind[2], (kind[1],) + names, deep - 1))
        if self.chance.random() < 0.5:
            return ("left", kind[2], self.of_kind(kind[1], names, deep - 1))
        return ("right", kind[1], self.of_kind(kind[2], names, deep - 1))

    def first(self, kind, names, deep):
        return ("first", self.of_kind(both(kind, self.chance.choice(self.KINDS)), names, deep - 1))

    def second(self, kind, names, deep):
        return ("second", self.of_kind(both(self.chance.choice(self.KINDS), kind), names, deep - 1))

    def case(self, kind, names, deep):
        a, b = self.chance.choice(self.KINDS), self.chance.choice(self.KINDS)
        asked = self.of_kind(either(a, b), names, deep - 1)
        left = self.of_kind(kind, (a,) + names, deep - 1)
        return ("case", asked, left, self.of_kind(kind, (b,) + names, deep - 1))

    def give(self, kind, names, deep):
        a = self.chance.choice(self.KINDS)
        return ("give", self.of_kind(way(a, kind), names, deep - 1), self.of_kind(a, names, deep - 1))

    def let(self, kind, names, deep):
        a = self.chance.choice(self.KINDS)
        return ("let", self.of_kind(a, names, deep - 1), self.of_kind(kind, (a,) + names, deep - 1))

    def never(self, kind, names, deep):
        return ("never", kind, self.of_kind(NONE, names, deep - 1))

    def any_program(self, deep):
        """A program that most often has no kind, with names that may not be there."""
        word = self.chance.choice(
            ("name", "star", "pair", "first", "second", "left", "right", "case", "way", "give", "let", "never")
        )
        if deep <= 1 or word == "name":
            return name(self.chance.randrange(6)) if word != "star" else STAR
        if word == "star":
            return STAR
        if word in ("left", "right", "way", "never"):
            return (word, self.kind(), self.any_program(deep - 1))
        many = {"first": 1, "second": 1, "case": 3}.get(word, 2)
        return (word,) + tuple(self.any_program(deep - 1) for number in range(many))


ONE_OF_EACH = (
    name(3),
    STAR,
    ("pair", name(0), STAR),
    ("first", name(1)),
    ("second", name(2)),
    ("left", TWO, name(0)),
    ("right", THREE, STAR),
    ("case", name(0), name(1), name(2)),
    ("way", TWO, name(0)),
    ("give", name(1), STAR),
    ("let", name(2), name(0)),
    ("never", FOUR, name(0)),
)


def chain(deep, step, end):
    """The step done so many times, from the end on."""
    program = end
    for number in range(deep):
        program = step(program)
    return program
