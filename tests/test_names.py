import unittest

from evenkinds.names import lifted, put_in
from evenkinds.programs import kind_of
from tests.samples import (
    FOUR, NONE, ONE, STAR, THREE, TWO, Maker, both, chain, either, name, size, way,
)


class Labels:
    """Programs with a label for each name, no label twice: so nothing has to be reckoned about numbers."""

    def __init__(self):
        self.many = 0

    def new(self):
        self.many += 1
        return ("new", self.many)

    def labelled(self, program, labels):
        word = program[0]
        if word == "name":
            return ("label", labels[program[1]])
        if word == "way":
            label = self.new()
            return (word, program[1], label, self.labelled(program[2], [label] + labels))
        if word == "let":
            label = self.new()
            return (word, self.labelled(program[1], labels), label, self.labelled(program[2], [label] + labels))
        if word == "case":
            one, other = self.new(), self.new()
            return (word, self.labelled(program[1], labels), one, self.labelled(program[2], [one] + labels),
                    other, self.labelled(program[3], [other] + labels))
        if word in ("left", "right", "never"):
            return (word, program[1], self.labelled(program[2], labels))
        return (word,) + tuple(self.labelled(part, labels) for part in program[1:])


def numbered(program, labels):
    word = program[0]
    if word == "label":
        return name(labels.index(program[1]))
    if word == "way":
        return (word, program[1], numbered(program[3], [program[2]] + labels))
    if word == "let":
        return (word, numbered(program[1], labels), numbered(program[3], [program[2]] + labels))
    if word == "case":
        return (word, numbered(program[1], labels), numbered(program[3], [program[2]] + labels),
                numbered(program[5], [program[4]] + labels))
    if word in ("left", "right", "never"):
        return (word, program[1], numbered(program[2], labels))
    return (word,) + tuple(numbered(part, labels) for part in program[1:])


def exchanged(program, label, other):
    if program == ("label", label):
        return other
    if program[0] == "label":
        return program
    return tuple(exchanged(part, label, other) if is_labelled(part) else part for part in program)


WORDS = ("label", "star", "pair", "first", "second", "left", "right", "case", "give", "let", "never")
KIND_WORDS = ("none", "one", "either", "both")


def is_labelled(part):
    if not isinstance(part, tuple) or part[0] in KIND_WORDS + ("new", "out"):
        return False
    # A way of kinds has two kinds behind its word, a way of programs a kind, a label and a program.
    return part[0] in WORDS or (part[0] == "way" and len(part) == 4)


OUT = [("out", number) for number in range(60)]


def lifted_again(program, many, least):
    before = Labels().labelled(program, OUT)
    more = [("out", "more", number) for number in range(many)]
    return numbered(before, OUT[:least] + more + OUT[least:])


def put_in_again(program, other):
    labels = Labels()
    inside = labels.labelled(program, [("out", "nought")] + OUT)
    return numbered(exchanged(inside, ("out", "nought"), labels.labelled(other, OUT)), OUT)


class Lifted(unittest.TestCase):
    def test_a_name(self):
        self.assertEqual(lifted(name(2), 0, 0), name(2))
        self.assertEqual(lifted(name(2), 1, 0), name(3))
        self.assertEqual(lifted(name(2), 5, 0), name(7))
        self.assertEqual(lifted(name(2), 5, 2), name(7))
        self.assertEqual(lifted(name(2), 5, 3), name(2))
        self.assertEqual(lifted(name(0), 1, 0), name(1))
        self.assertEqual(lifted(name(0), 1, 1), name(0))

    def test_each_form(self):
        a, b, c = name(0), name(1), name(2)
        self.assertEqual(lifted(STAR, 3, 0), STAR)
        self.assertEqual(lifted(("pair", a, b), 3, 1), ("pair", name(0), name(4)))
        self.assertEqual(lifted(("first", b), 3, 1), ("first", name(4)))
        self.assertEqual(lifted(("second", b), 3, 1), ("second", name(4)))
        self.assertEqual(lifted(("left", TWO, b), 3, 1), ("left", TWO, name(4)))
        self.assertEqual(lifted(("right", TWO, b), 3, 1), ("right", TWO, name(4)))
        self.assertEqual(lifted(("give", b, a), 3, 1), ("give", name(4), name(0)))
        self.assertEqual(lifted(("never", FOUR, b), 3, 1), ("never", FOUR, name(4)))
        self.assertEqual(lifted(("way", TWO, ("pair", a, ("pair", b, c))), 3, 1),
                         ("way", TWO, ("pair", name(0), ("pair", name(1), name(5)))))
        self.assertEqual(lifted(("let", b, ("pair", a, ("pair", b, c))), 3, 1),
                         ("let", name(4), ("pair", name(0), ("pair", name(1), name(5)))))
        self.assertEqual(lifted(("case", b, ("pair", a, b), ("pair", b, c)), 3, 0),
                         ("case", name(4), ("pair", name(0), name(4)), ("pair", name(4), name(5))))

    def test_under_several_names(self):
        program = ("way", TWO, ("let", STAR, ("case", name(4), ("pair", name(0), name(3)),
                                              ("pair", name(2), ("pair", name(3), name(4))))))
        self.assertEqual(
            lifted(program, 10, 0),
            ("way", TWO, ("let", STAR, ("case", name(14), ("pair", name(0), name(13)),
                                        ("pair", name(2), ("pair", name(13), name(14)))))),
        )
        self.assertEqual(
            lifted(program, 10, 1),
            ("way", TWO, ("let", STAR, ("case", name(14), ("pair", name(0), name(3)),
                                        ("pair", name(2), ("pair", name(3), name(14)))))),
        )
        self.assertEqual(lifted(program, 10, 3), program)

    def test_kinds_are_left_alone(self):
        kind = way(TWO, either(THREE, NONE))
        program = ("way", kind, ("left", kind, ("never", kind, name(1))))
        self.assertEqual(lifted(program, 2, 0), ("way", kind, ("left", kind, ("never", kind, name(3)))))

    def test_by_nought_it_is_as_it_was(self):
        for seed in range(60):
            program = Maker(seed).any_program(6)
            for least in (0, 1, 4):
                self.assertEqual(lifted(program, 0, least), program)

    def test_many_programs(self):
        for seed in range(120):
            program = Maker(seed).any_program(7)
            for many in (0, 1, 2, 7):
                for least in (0, 1, 2, 5):
                    self.assertEqual(lifted(program, many, least), lifted_again(program, many, least))

    def test_the_kind_stays_over_more_names(self):
        for seed in range(60):
            maker = Maker(seed)
            names = (maker.kind(), NONE, maker.kind())
            kind = maker.kind()
            program = maker.of_kind(kind, names, 6)
            for least in range(4):
                more = names[:least] + (FOUR, THREE) + names[least:]
                self.assertEqual(kind_of(lifted(program, 2, least), more), kind)

    def test_very_deep(self):
        told = lifted(chain(3000, lambda one: ("let", name(0), one), name(3000)), 4, 0)
        self.assertEqual(told[1], name(4))
        for number in range(3000):
            self.assertEqual(told[1], name(4 if number == 0 else 0))
            told = told[2]
        self.assertEqual(told, name(3004))


class PutIn(unittest.TestCase):
    def test_nowhere(self):
        self.assertEqual(put_in(STAR, name(5)), STAR)
        self.assertEqual(put_in(name(1), name(5)), name(0))
        self.assertEqual(put_in(name(4), name(5)), name(3))
        self.assertEqual(put_in(("pair", name(1), ("way", TWO, name(0))), name(5)),
                         ("pair", name(0), ("way", TWO, name(0))))

    def test_once(self):
        other = ("pair", name(0), ("way", TWO, ("pair", name(0), name(1))))
        self.assertEqual(put_in(name(0), other), other)
        self.assertEqual(put_in(("first", name(0)), other), ("first", other))
        self.assertEqual(put_in(("pair", name(2), name(0)), other), ("pair", name(1), other))

    def test_several_times(self):
        other = ("first", name(3))
        self.assertEqual(put_in(("pair", name(0), ("give", name(0), name(1))), other),
                         ("pair", other, ("give", other, name(0))))

    def test_each_form(self):
        other = ("first", name(7))
        more = ("first", name(8))
        self.assertEqual(put_in(("pair", name(0), name(1)), other), ("pair", other, name(0)))
        self.assertEqual(put_in(("second", name(0)), other), ("second", other))
        self.assertEqual(put_in(("left", TWO, name(0)), other), ("left", TWO, other))
        self.assertEqual(put_in(("right", TWO, name(0)), other), ("right", TWO, other))
        self.assertEqual(put_in(("never", TWO, name(0)), other), ("never", TWO, other))
        self.assertEqual(put_in(("give", name(1), name(0)), other), ("give", name(0), other))
        self.assertEqual(put_in(("way", TWO, ("pair", name(0), ("pair", name(1), name(2)))), other),
                         ("way", TWO, ("pair", name(0), ("pair", more, name(1)))))
        self.assertEqual(put_in(("let", name(0), ("pair", name(0), ("pair", name(1), name(2)))), other),
                         ("let", other, ("pair", name(0), ("pair", more, name(1)))))
        self.assertEqual(put_in(("case", name(0), ("pair", name(0), name(1)), ("pair", name(1), name(2))), other),
                         ("case", other, ("pair", name(0), more), ("pair", more, name(1))))

    def test_lifted_by_the_names_it_comes_to_stand_under(self):
        program = ("way", TWO, ("let", name(1), ("case", name(2), name(3), ("pair", name(0), name(3)))))
        other = ("let", name(1), ("pair", name(0), name(2)))
        by = [("let", name(1 + more), ("pair", name(0), name(2 + more))) for more in range(4)]
        self.assertEqual(
            put_in(program, other),
            ("way", TWO, ("let", by[1], ("case", by[2], by[3], ("pair", name(0), by[3])))),
        )

    def test_many_programs(self):
        stood = 0
        for seed in range(400):
            maker = Maker(seed)
            program, other = maker.any_program(6), maker.any_program(4)
            told = put_in(program, other)
            self.assertEqual(told, put_in_again(program, other))
            stood += size(told) > size(program)
        self.assertGreater(stood, 50)

    def test_the_kind_stays(self):
        for seed in range(100):
            maker = Maker(seed)
            names = (maker.kind(), NONE, maker.kind())
            inside, kind = maker.kind(), maker.kind()
            program = maker.of_kind(kind, (inside,) + names, 6)
            other = maker.of_kind(inside, names, 4)
            self.assertEqual(kind_of(put_in(program, other), names), kind)

    def test_put_in_what_was_lifted_leaves_it_as_it_was(self):
        for seed in range(60):
            program = Maker(seed).any_program(6)
            self.assertEqual(put_in(lifted(program, 1, 0), ("pair", name(9), STAR)), program)

    def test_programs_without_a_kind(self):
        self.assertEqual(put_in(("first", ("give", STAR, name(0))), ("never", TWO, STAR)),
                         ("first", ("give", STAR, ("never", TWO, STAR))))

    def test_often_and_large(self):
        program = chain(10, lambda one: ("pair", one, one), name(0))
        other = chain(9, lambda one: ("pair", one, ("way", both(ONE, TWO), name(1))), name(0))
        self.assertEqual(size(put_in(program, other)), 1023 + 1024 * size(other))

    def test_very_deep(self):
        told = put_in(chain(3000, lambda one: ("let", STAR, one), name(3000)), ("pair", name(0), name(2)))
        for number in range(3000):
            told = told[2]
        self.assertEqual(told, ("pair", name(3000), name(3002)))


if __name__ == "__main__":
    unittest.main()
