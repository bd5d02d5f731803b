"""Kinds and programs to test with, and plain second answers to what the program is asked."""

import itertools
import random
import time

from evenkinds.names import lifted, put_in

NONE = ("none",)
ONE = ("one",)


def either(a, b):
    return ("either", a, b)


def both(a, b):
    return ("both", a, b)


def way(a, b):
    return ("way", a, b)


TWO = either(ONE, ONE)
THREE = either(ONE, TWO)
FOUR = both(TWO, TWO)
FIVE = either(ONE, FOUR)
TEN = both(TWO, FIVE)
HUNDRED = both(TEN, TEN)
# As many things as two to the power of ten thousand.
VAST = way(HUNDRED, way(HUNDRED, TWO))


def name(number):
    return ("name", number)


STAR = ("star",)


def small_kinds(deep):
    """All kinds nested at most so deep."""
    if deep == 1:
        return [NONE, ONE]
    beneath = small_kinds(deep - 1)
    joined = [(word, a, b) for word in ("either", "both", "way") for a in beneath for b in beneath]
    return beneath + [kind for kind in joined if kind not in beneath]


def things_again(kind):
    """The things of a kind in order, by the words of [4]."""
    if kind == NONE:
        return []
    if kind == ONE:
        return [()]
    first, second = things_again(kind[1]), things_again(kind[2])
    if kind[0] == "either":
        return [("l", a) for a in first] + [("r", b) for b in second]
    if kind[0] == "both":
        return [("p", a, b) for a in first for b in second]
    return [("w", row) for row in itertools.product(second, repeat=len(first))]


def parts_again(program):
    """The inner ones by the words of [5]."""
    word = program[0]
    if word in ("name", "star"):
        return []
    if word in ("left", "right", "way", "never"):
        return [program[2]]
    return list(program[1:])


def size(program):
    return 1 + sum(size(part) for part in parts_again(program))


def depth(program):
    return 1 + max((depth(part) for part in parts_again(program)), default=0)


def places(program):
    answer = [()]
    for number, part in enumerate(parts_again(program)):
        answer.extend((number,) + place for place in places(part))
    return answer


def replaced_again(program, place, other):
    if place == ():
        return other
    parts = parts_again(program)
    parts[place[0]] = replaced_again(parts[place[0]], place[1:], other)
    return program[:len(program) - len(parts)] + tuple(parts)


def kind_again(program, names):
    """The kind by the words of [8], or None where there is none."""
    word = program[0]
    if word == "name":
        return names[program[1]] if program[1] < len(names) else None
    if word == "star":
        return ONE
    if word == "way":
        told = kind_again(program[2], (program[1],) + names)
        return None if told is None else way(program[1], told)
    if word in ("left", "right", "never"):
        told = kind_again(program[2], names)
        if told is None:
            return None
        if word == "left":
            return either(told, program[1])
        if word == "right":
            return either(program[1], told)
        return program[1] if told == NONE else None
    told = kind_again(program[1], names)
    if told is None:
        return None
    if word == "let":
        return kind_again(program[2], (told,) + names)
    if word in ("first", "second"):
        return told[("first", "second").index(word) + 1] if told[0] == "both" else None
    if word == "case":
        if told[0] != "either":
            return None
        left = kind_again(program[2], (told[1],) + names)
        return left if left == kind_again(program[3], (told[2],) + names) else None
    other = kind_again(program[2], names)
    if other is None:
        return None
    if word == "pair":
        return both(told, other)
    return told[2] if told[0] == "way" and told[1] == other else None


class Maker:
    """Makes programs of a kind, always the same ones for the same seed."""

    KINDS = (NONE, ONE, TWO, either(TWO, ONE), both(ONE, TWO), way(TWO, ONE), way(ONE, TWO), FOUR)

    def __init__(self, seed):
        self.chance = random.Random(seed)

    def kind(self, deep=3):
        if deep == 1 or self.chance.random() < 0.3:
            return self.chance.choice((NONE, ONE, ONE))
        word = self.chance.choice(("either", "both", "way"))
        return (word, self.kind(deep - 1), self.kind(deep - 1))

    def of_kind(self, kind, names, deep):
        """A program of the kind over the names, which hold the kind none, so that there is always one."""
        plain = [name(number) for number, one in enumerate(names) if one == kind]
        if deep <= 1:
            if plain:
                return self.chance.choice(plain)
            return ("never", kind, name(names.index(NONE)))
        if plain and self.chance.random() < 0.15:
            return self.chance.choice(plain)
        builders = [self.first, self.second, self.case, self.give, self.let, self.never]
        builders += [self.own] * 4
        return self.chance.choice(builders)(kind, names, deep)

    def own(self, kind, names, deep):
        if kind == NONE:
            return self.let(kind, names, deep)
        if kind == ONE:
            return STAR
        if kind[0] == "both":
            return ("pair", self.of_kind(kind[1], names, deep - 1), self.of_kind(kind[2], names, deep - 1))
        if kind[0] == "way":
            return ("way", kind[1], self.of_kind(kind[2], (kind[1],) + names, deep - 1))
        if self.chance.random() < 0.5:
            return ("left", kind[2], self.of_kind(kind[1], names, deep - 1))
        return ("right", kind[1], self.of_kind(kind[2], names, deep - 1))

    def first(self, kind, names, deep):
        return ("first", self.of_kind(both(kind, self.chance.choice(self.KINDS)), names, deep - 1))

    def second(self, kind, names, deep):
        return ("second", self.of_kind(both(self.chance.choice(self.KINDS), kind), names, deep - 1))

    def case(self, kind, names, deep):
        a, b = self.chance.choice(self.KINDS), self.chance.choice(self.KINDS)
        asked = self.of_kind(either(a, b), names, deep - 1)
        left = self.of_kind(kind, (a,) + names, deep - 1)
        return ("case", asked, left, self.of_kind(kind, (b,) + names, deep - 1))

    def give(self, kind, names, deep):
        a = self.chance.choice(self.KINDS)
        return ("give", self.of_kind(way(a, kind), names, deep - 1), self.of_kind(a, names, deep - 1))

    def let(self, kind, names, deep):
        a = self.chance.choice(self.KINDS)
        return ("let", self.of_kind(a, names, deep - 1), self.of_kind(kind, (a,) + names, deep - 1))

    def never(self, kind, names, deep):
        return ("never", kind, self.of_kind(NONE, names, deep - 1))

    def any_program(self, deep):
        """A program that most often has no kind, with names that may not be there."""
        word = self.chance.choice(
            ("name", "star", "pair", "first", "second", "left", "right", "case", "way", "give", "let", "never")
        )
        if deep <= 1 or word == "name":
            return name(self.chance.randrange(6)) if word != "star" else STAR
        if word == "star":
            return STAR
        if word in ("left", "right", "way", "never"):
            return (word, self.kind(), self.any_program(deep - 1))
        many = {"first": 1, "second": 1, "case": 3}.get(word, 2)
        return (word,) + tuple(self.any_program(deep - 1) for number in range(many))


ONE_OF_EACH = (
    name(3),
    STAR,
    ("pair", name(0), STAR),
    ("first", name(1)),
    ("second", name(2)),
    ("left", TWO, name(0)),
    ("right", THREE, STAR),
    ("case", name(0), name(1), name(2)),
    ("way", TWO, name(0)),
    ("give", name(1), STAR),
    ("let", name(2), name(0)),
    ("never", FOUR, name(0)),
)


def chain(deep, step, end):
    """The step done so many times, from the end on."""
    program = end
    for number in range(deep):
        program = step(program)
    return program


def told_again(program, row, names):
    """What a program tells at a row, by the words of [10]; every way is told whole."""
    word = program[0]
    if word == "name":
        return row[program[1]]
    if word == "star":
        return ()
    if word == "pair":
        return ("p", told_again(program[1], row, names), told_again(program[2], row, names))
    if word in ("first", "second"):
        return told_again(program[1], row, names)[("first", "second").index(word) + 1]
    if word in ("left", "right"):
        return (word[0], told_again(program[2], row, names))
    if word == "way":
        more = (program[1],) + names
        return ("w", tuple(told_again(program[2], (a,) + row, more) for a in things_again(program[1])))
    if word == "never":
        raise AssertionError("a thing of none is told")
    thing = told_again(program[1], row, names)
    kind = kind_again(program[1], names)
    if word == "let":
        return told_again(program[2], (thing,) + row, (kind,) + names)
    if word == "case":
        side = "lr".index(thing[0])
        return told_again(program[2 + side], (thing[1],) + row, (kind[1 + side],) + names)
    return thing[1][things_again(kind[1]).index(told_again(program[2], row, names))]


def rows_again(names):
    return list(itertools.product(*[things_again(kind) for kind in names]))


def table_again(program, names):
    return [told_again(program, row, names) for row in rows_again(names)]


def is_empty(kind):
    if kind[0] in ("none", "one"):
        return kind == NONE
    first, second = is_empty(kind[1]), is_empty(kind[2])
    return {"either": first and second, "both": first or second, "way": second and not first}[kind[0]]


def absurd(program, kind, wanted):
    """A program of the wanted kind, made of one of a kind without things."""
    if kind == NONE:
        return ("never", wanted, program)
    if kind[0] == "both":
        return absurd(("first", program), kind[1], wanted) if is_empty(kind[1]) else \
            absurd(("second", program), kind[2], wanted)
    if kind[0] == "way":
        return absurd(("give", program, simple(kind[1], ())), kind[2], wanted)
    return ("case", program, absurd(name(0), kind[1], wanted), absurd(name(0), kind[2], wanted))


def simple(kind, names):
    """Some program of the kind, which has things or stands under a name of a kind without things."""
    if is_empty(kind):
        for number, one in enumerate(names):
            if is_empty(one):
                return absurd(name(number), one, kind)
        raise AssertionError("no such program")
    if kind == ONE:
        return STAR
    if kind[0] == "both":
        return ("pair", simple(kind[1], names), simple(kind[2], names))
    if kind[0] == "way":
        return ("way", kind[1], simple(kind[2], (kind[1],) + names))
    if is_empty(kind[1]):
        return ("right", kind[1], simple(kind[2], names))
    return ("left", kind[2], simple(kind[1], names))


class Total(Maker):
    """Makes programs of a kind over any names, as long as there is one."""

    def __init__(self, seed, kinds=Maker.KINDS):
        Maker.__init__(self, seed)
        self.kinds = kinds

    def some_kind(self, names):
        """A kind of which there is a program over the names."""
        any_empty = any(is_empty(one) for one in names)
        return self.chance.choice([kind for kind in self.kinds if any_empty or not is_empty(kind)])

    def of_kind(self, kind, names, deep):
        plain = [name(number) for number, one in enumerate(names) if one == kind]
        if plain and (deep <= 1 or self.chance.random() < 0.2):
            return self.chance.choice(plain)
        if deep <= 1:
            return simple(kind, names)
        builders = [self.first, self.second, self.case, self.give, self.let] + [self.own] * 3
        if any(is_empty(one) for one in names):
            builders += [self.never]
        return self.chance.choice(builders)(kind, names, deep)

    def own(self, kind, names, deep):
        if kind == NONE:
            return self.let(kind, names, deep)
        if kind == ONE:
            return STAR
        if kind[0] == "both":
            return ("pair", self.of_kind(kind[1], names, deep - 1), self.of_kind(kind[2], names, deep - 1))
        if kind[0] == "way":
            return ("way", kind[1], self.of_kind(kind[2], (kind[1],) + names, deep - 1))
        open_to_all = any(is_empty(one) for one in names)
        sides = [side for side in (1, 2) if open_to_all or not is_empty(kind[side])]
        if not sides:
            return self.let(kind, names, deep)
        side = self.chance.choice(sides)
        return (("left", "right")[side - 1], kind[3 - side], self.of_kind(kind[side], names, deep - 1))

    def first(self, kind, names, deep):
        return ("first", self.of_kind(both(kind, self.some_kind(names)), names, deep - 1))

    def second(self, kind, names, deep):
        return ("second", self.of_kind(both(self.some_kind(names), kind), names, deep - 1))

    def case(self, kind, names, deep):
        a, b = self.some_kind(names), self.chance.choice(self.kinds)
        a, b = self.chance.choice(((a, b), (b, a)))
        asked = self.of_kind(either(a, b), names, deep - 1)
        left = self.of_kind(kind, (a,) + names, deep - 1)
        return ("case", asked, left, self.of_kind(kind, (b,) + names, deep - 1))

    def give(self, kind, names, deep):
        a = self.some_kind(names)
        return ("give", self.of_kind(way(a, kind), names, deep - 1), self.of_kind(a, names, deep - 1))

    def let(self, kind, names, deep):
        a = self.some_kind(names)
        return ("let", self.of_kind(a, names, deep - 1), self.of_kind(kind, (a,) + names, deep - 1))

    def step(self, word, kind, names, deep):
        """One, other and C of a step of the word, of the kind; None where there is none of this kind."""
        a, b = self.some_kind(names), self.some_kind(names)
        under = (a,) + names
        if word == "let":
            one = ("let", self.of_kind(a, names, deep), self.of_kind(kind, under, deep))
            return one, put_in(one[2], one[1]), None
        if word == "give":
            one = ("give", ("way", a, self.of_kind(kind, under, deep)), self.of_kind(a, names, deep))
            return one, put_in(one[1][2], one[2]), None
        if word in ("first", "second"):
            kept, lost = self.of_kind(kind, names, deep), self.of_kind(a, names, deep)
            one = (word, ("pair", kept, lost) if word == "first" else ("pair", lost, kept))
            return one, kept, None
        if word in ("left", "right"):
            left, right = self.of_kind(kind, under, deep), self.of_kind(kind, (b,) + names, deep)
            if word == "left":
                asked = ("left", b, self.of_kind(a, names, deep))
                return ("case", asked, left, right), put_in(left, asked[2]), None
            asked = ("right", a, self.of_kind(b, names, deep))
            return ("case", asked, left, right), put_in(right, asked[2]), None
        if word == "split":
            asked = self.of_kind(either(a, b), names, deep)
            through = self.of_kind(kind, (either(a, b),) + names, deep)
            lower = lifted(through, 1, 1)
            other = ("case", asked, put_in(lower, ("left", b, name(0))), put_in(lower, ("right", a, name(0))))
            return put_in(through, asked), other, through
        one = self.of_kind(kind, names, deep)
        if word == "star" and kind == ONE:
            return one, STAR, None
        if word == "pair" and kind[0] == "both":
            return one, ("pair", ("first", one), ("second", one)), None
        if word == "way" and kind[0] == "way":
            return one, ("way", kind[1], ("give", lifted(one, 1, 0), name(0))), None
        if word == "never" and any(is_empty(one) for one in names):
            return one, ("never", kind, self.of_kind(NONE, names, deep)), None
        return None


def step_again(program):
    """The place, the word and what one and other of the step that [15] tells are, or None."""
    word = program[0]
    if word == "let":
        return (), word, program, put_in(program[2], program[1])
    if word not in ("give", "first", "second", "case", "never"):
        return None
    asked = parts_again(program)[0]
    if word == "give" and asked[0] == "way":
        return (), word, program, put_in(asked[2], program[2])
    if word in ("first", "second") and asked[0] == "pair":
        return (), word, program, asked[("first", "second").index(word) + 1]
    if word == "case" and asked[0] in ("left", "right"):
        branch = program[("left", "right").index(asked[0]) + 2]
        return (), asked[0], program, put_in(branch, asked[2])
    found = step_again(asked)
    return None if found is None else ((0,) + found[0],) + found[1:]


def run_again(program):
    """All programs that come along a run, the program itself first."""
    came = [program]
    found = step_again(program)
    while found is not None:
        came.append(replaced_again(came[-1], found[0], found[3]))
        found = step_again(came[-1])
    return came


def asked_again(expression, kind, wanted, then):
    """What asks an expression of the kind, and goes on with each answer and the number of names that it stands under
    by then, by the words of [18]."""
    if kind == NONE:
        return ("never", wanted, expression)
    if kind == ONE:
        return then((), 0)
    if kind[0] == "either":
        return ("case", expression, asked_again(name(0), kind[1], wanted, lambda a, more: then(("l", a), more + 1)),
                asked_again(name(0), kind[2], wanted, lambda b, more: then(("r", b), more + 1)))
    if kind[0] == "both":
        return asked_again(
            ("first", expression), kind[1], wanted, lambda a, more: asked_again(
                ("second", lifted(expression, more, 0)), kind[2], wanted,
                lambda b, further: then(("p", a, b), more + further)))

    def gifts(answers, left, more):
        if not left:
            return then(("w", answers), more)
        return asked_again(("give", lifted(expression, more, 0), plain_again(kind[1], left[0])), kind[2], wanted,
                           lambda b, further: gifts(answers + (b,), left[1:], more + further))

    return gifts((), things_again(kind[1]), 0)


def plain_table_again(names, kind, table):
    rows = rows_again(names)

    def ask(row, more):
        number = len(row)
        if number == len(names):
            return plain_again(kind, table[rows.index(row)])
        return asked_again(name(number + more), names[number], kind,
                           lambda thing, further: ask(row + (thing,), more + further))

    return ask((), 0)


def plain_again(kind, thing):
    """The plain program of a thing, by the words of [17]."""
    if kind == ONE:
        return STAR
    if kind[0] == "both":
        return ("pair", plain_again(kind[1], thing[1]), plain_again(kind[2], thing[2]))
    if kind[0] == "way":
        return ("way", kind[1], plain_table_again(kind[1:2], kind[2], list(thing[1])))
    if thing[0] == "l":
        return ("left", kind[2], plain_again(kind[1], thing[1]))
    return ("right", kind[1], plain_again(kind[2], thing[1]))


def few(kinds, many):
    """Those of the kinds that have at most so many things."""
    return [kind for kind in kinds if len(things_again(kind)) <= many]


def looks_again(kind, length):
    """All looks of so many at things of the kind, in the order of [22], whatever the things are."""
    if length == 0:
        return [[]]
    if kind[0] == "both":
        first = [[("first",)] + looks for looks in looks_again(kind[1], length - 1)]
        return first + [[("second",)] + looks for looks in looks_again(kind[2], length - 1)]
    if kind[0] == "either":
        left = [[("left",)] + looks for looks in looks_again(kind[1], length - 1)]
        return left + [[("right",)] + looks for looks in looks_again(kind[2], length - 1)]
    if kind[0] == "way":
        behind = looks_again(kind[2], length - 1)
        return [[("give", thing)] + looks for thing in things_again(kind[1]) for looks in behind]
    return []


def looked_again(kind, thing, looks):
    """The kind and the thing to which looks lead, or None, by the words of [21]."""
    for look in looks:
        if look[0] in ("left", "right"):
            if thing[0] != look[0][0]:
                return None
            kind, thing = kind[("left", "right").index(look[0]) + 1], thing[1]
        elif look[0] == "give":
            kind, thing = kind[2], thing[1][things_again(kind[1]).index(look[1])]
        else:
            side = ("first", "second").index(look[0]) + 1
            kind, thing = kind[side], thing[side]
    return kind, thing


def part_by(kind, one, other, looks):
    ends = looked_again(kind, one, looks), looked_again(kind, other, looks)
    return None not in ends and ends[0][0][0] == "either" and {ends[0][1][0], ends[1][1][0]} == {"l", "r"}


def kind_depth(kind):
    return 1 + max((kind_depth(part) for part in kind[1:]), default=0)


def part_again(kind, one, other):
    """The first looks that part two things, found by trying all."""
    for length in range(kind_depth(kind)):
        for looks in looks_again(kind, length):
            if part_by(kind, one, other, looks):
                return looks
    return None


def surrounding_again(one, other, names):
    """The first surrounding, found by trying all looks at all rows."""
    kind = kind_again(one, names)
    told = list(zip(rows_again(names), table_again(one, names), table_again(other, names)))
    for length in range(kind_depth(kind)):
        for looks in looks_again(kind, length):
            for row, first, second in told:
                if part_by(kind, first, second, looks):
                    return row, looks
    return None


DOUBLINGS = (4, 12, 16, 20, 22, 24, 28, 40, 57)


def each_soon(test, function, many=DOUBLINGS):
    """Asked for more and more doublings; fails where it takes long, which is ahead of where it would never end."""
    for number in many:
        begun = time.monotonic()
        function(number)
        taken = time.monotonic() - begun
        test.assertLess(taken, 20, f"asked with {number}")


def doubled(last, many, base=("star",)):
    """Lets that each pair their name with itself around the last, whose name 0 then has a kind of very many parts."""
    return ("let", base, chain(many, lambda one: ("let", ("pair", name(0), name(0)), one), last))
