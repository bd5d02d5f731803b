"""[17], [18], [19]: the plain programs of things and of tables."""

import copy
import itertools
import unittest

from evenkinds.plain import plain_table, plain_thing
from evenkinds.programs import kind_of
from evenkinds.tables import table
from tests.samples import (
    FOUR, HUNDRED, NONE, ONE, STAR, THREE, TWO, Total, both, chain, either, few, name, plain_again,
    plain_table_again, rows_again, small_kinds, things_again, way,
)

L, R = ("l", ()), ("r", ())
LEFT, RIGHT = ("left", ONE, STAR), ("right", ONE, STAR)


class Things(unittest.TestCase):
    def test_each_form(self):
        self.assertEqual(plain_thing(ONE, ()), STAR)
        self.assertEqual(plain_thing(TWO, L), LEFT)
        self.assertEqual(plain_thing(TWO, R), RIGHT)
        self.assertEqual(plain_thing(THREE, ("r", L)), ("right", ONE, LEFT))
        self.assertEqual(plain_thing(either(TWO, ONE), ("l", R)), ("left", ONE, RIGHT))
        self.assertEqual(plain_thing(FOUR, ("p", R, L)), ("pair", RIGHT, LEFT))

    def test_ways(self):
        self.assertEqual(plain_thing(way(ONE, TWO), ("w", (R,))), ("way", ONE, RIGHT))
        self.assertEqual(plain_thing(way(TWO, TWO), ("w", (R, L))), ("way", TWO, ("case", name(0), RIGHT, LEFT)))
        self.assertEqual(plain_thing(way(NONE, TWO), ("w", ())), ("way", NONE, ("never", TWO, name(0))))
        self.assertEqual(plain_thing(way(TWO, way(TWO, ONE)), ("w", (("w", ((), ())),) * 2)),
                         ("way", TWO, ("case", name(0), ("way", TWO, ("case", name(0), STAR, STAR)),
                                       ("way", TWO, ("case", name(0), STAR, STAR)))))
        self.assertEqual(plain_thing(way(way(TWO, ONE), TWO), ("w", (R,))), ("way", way(TWO, ONE), RIGHT))
        self.assertEqual(
            plain_thing(way(both(TWO, NONE), ONE), ("w", ())),
            ("way", both(TWO, NONE), ("case", ("first", name(0)), ("never", ONE, ("second", name(1))),
                                      ("never", ONE, ("second", name(1))))))

    def test_of_all_small_kinds(self):
        for kind in few(small_kinds(3), 30):
            for thing in things_again(kind):
                program = plain_thing(kind, thing)
                self.assertEqual(program, plain_again(kind, thing))
                self.assertEqual(kind_of(program, ()), kind)
                self.assertEqual(table(program, ()), [thing])

    def test_many_things(self):
        for kind in (HUNDRED, way(THREE, FOUR), way(FOUR, THREE), way(way(TWO, TWO), TWO)):
            things = things_again(kind)
            for thing in (things[0], things[len(things) // 3], things[-1]):
                self.assertEqual(plain_thing(kind, thing), plain_again(kind, thing))
                self.assertEqual(table(plain_thing(kind, thing), ()), [thing])

    def test_deep_kinds(self):
        kind, thing, program = ONE, (), STAR
        for number in range(3000):
            kind, thing, program = ((either(NONE, kind), ("r", thing), ("right", NONE, program)),
                                    (both(kind, ONE), ("p", thing, ()), ("pair", program, STAR)),
                                    (way(ONE, kind), ("w", (thing,)), ("way", ONE, program)))[number % 3]
        told = plain_thing(kind, thing)
        for number in range(3000):
            self.assertEqual(told[0], program[0])
            told, program = [one[1] if one[0] == "pair" else one[2] for one in (told, program)]
        self.assertEqual(told, program)


class Tables(unittest.TestCase):
    def asks(self, names, kind, things, program=None):
        before = copy.deepcopy(things)
        told = plain_table(names, kind, things)
        self.assertEqual(things, before)
        if program is not None:
            self.assertEqual(told, program)
        self.assertEqual(told, plain_table_again(names, kind, things))
        self.assertEqual(kind_of(told, names), kind)
        self.assertEqual(table(told, names), things)
        self.assertEqual(plain_table(names, kind, things), told)

    def test_no_names(self):
        self.asks((), ONE, [()], STAR)
        self.asks((), TWO, [R], RIGHT)
        self.asks((), way(TWO, TWO), [("w", (L, R))], ("way", TWO, ("case", name(0), LEFT, RIGHT)))

    def test_one(self):
        self.asks((ONE,), TWO, [R], RIGHT)
        self.asks((ONE, ONE, ONE), TWO, [R], RIGHT)

    def test_none(self):
        self.asks((NONE,), TWO, [], ("never", TWO, name(0)))
        self.asks((NONE, TWO), TWO, [], ("never", TWO, name(0)))
        self.asks((TWO, NONE), ONE, [], ("case", name(0), ("never", ONE, name(2)), ("never", ONE, name(2))))
        self.asks((ONE, NONE), FOUR, [], ("never", FOUR, name(1)))
        self.asks((NONE,), NONE, [], ("never", NONE, name(0)))
        self.asks((NONE, NONE), NONE, [], ("never", NONE, name(0)))

    def test_either(self):
        self.asks((TWO,), TWO, [R, L], ("case", name(0), RIGHT, LEFT))
        self.asks((THREE,), TWO, [R, L, R], ("case", name(0), RIGHT, ("case", name(0), LEFT, RIGHT)))
        self.asks((either(TWO, ONE),), TWO, [R, L, R], ("case", name(0), ("case", name(0), RIGHT, LEFT), RIGHT))
        self.asks((either(NONE, ONE),), TWO, [R], ("case", name(0), ("never", TWO, name(0)), RIGHT))
        self.asks((either(NONE, NONE),), TWO, [], ("case", name(0), ("never", TWO, name(0)), ("never", TWO, name(0))))

    def test_both(self):
        self.asks((FOUR,), TWO, [R, L, L, R],
                  ("case", ("first", name(0)), ("case", ("second", name(1)), RIGHT, LEFT),
                   ("case", ("second", name(1)), LEFT, RIGHT)))
        self.asks((both(ONE, TWO),), TWO, [R, L], ("case", ("second", name(0)), RIGHT, LEFT))
        self.asks((both(NONE, TWO),), TWO, [], ("never", TWO, ("first", name(0))))

    def test_way(self):
        self.asks((way(TWO, TWO),), TWO, [R, L, L, R],
                  ("case", ("give", name(0), LEFT), ("case", ("give", name(1), RIGHT), RIGHT, LEFT),
                   ("case", ("give", name(1), RIGHT), LEFT, RIGHT)))
        self.asks((way(NONE, TWO),), TWO, [R], RIGHT)
        self.asks((way(TWO, ONE),), TWO, [R], RIGHT)
        self.asks((way(ONE, NONE),), TWO, [], ("never", TWO, ("give", name(0), STAR)))
        self.asks((way(ONE, FOUR),), ONE, [()] * 4,
                  ("case", ("first", ("give", name(0), STAR)),
                   ("case", ("second", ("give", name(1), STAR)), STAR, STAR),
                   ("case", ("second", ("give", name(1), STAR)), STAR, STAR)))
        gift = ("give", name(0), ("way", TWO, ("case", name(0), STAR, STAR)))
        self.asks((way(way(TWO, ONE), TWO),), TWO, [R, L], ("case", gift, RIGHT, LEFT))

    def test_two_and_three_names(self):
        self.asks((TWO, TWO), TWO, [L, R, R, L], ("case", name(0), ("case", name(2), LEFT, RIGHT),
                                                  ("case", name(2), RIGHT, LEFT)))
        self.asks((ONE, TWO), TWO, [R, L], ("case", name(1), RIGHT, LEFT))
        self.asks((TWO, ONE, TWO), FOUR, [("p", a, b) for a in (L, R) for b in (R, L)])
        self.asks((FOUR, FOUR, FOUR), FOUR, [row[number % 3] for number, row in enumerate(rows_again((FOUR,) * 3))])
        self.asks((way(TWO, TWO), THREE), THREE, [row[1] for row in rows_again((way(TWO, TWO), THREE))])

    def test_all_tables_are_told_by_unlike_programs(self):
        for names, kind in (((), FOUR), ((TWO,), TWO), ((TWO, TWO), TWO), ((way(TWO, TWO),), TWO), ((THREE,), THREE),
                            ((TWO,), way(TWO, TWO)), ((either(NONE, TWO),), both(TWO, ONE)), ((FOUR,), TWO)):
            programs = []
            for things in itertools.product(things_again(kind), repeat=len(rows_again(names))):
                self.asks(names, kind, list(things))
                programs.append(plain_table(names, kind, list(things)))
            self.assertEqual(len(set(programs)), len(programs))

    def test_all_small_kinds(self):
        for kind in few(small_kinds(3), 16):
            self.asks((kind,), kind, things_again(kind))
            self.asks((TWO, kind), both(kind, TWO), [("p", b, a) for a, b in rows_again((TWO, kind))])

    def test_tables_of_programs(self):
        for seed in range(150):
            maker = Total(seed)
            names = tuple(maker.chance.choice(maker.KINDS) for number in range(seed % 4))
            if len(rows_again(names)) <= 64:
                kind = maker.some_kind(names)
                self.asks(names, kind, table(maker.of_kind(kind, names, 5), names))

    def test_very_deep(self):
        # One thing alone, but nine hundred sides to ask, each with another side that is of none.
        kind = way(chain(1, lambda one: both(one, THREE), THREE), way(HUNDRED, either(NONE, ONE)))
        program = plain_table((kind,), TWO, [R])
        self.assertEqual(table(program, (kind,)), [R])
        for number in range(900):
            self.assertEqual((program[0], program[2][0]), ("case", "never"))
            program = program[3]
        self.assertEqual(program, RIGHT)


if __name__ == "__main__":
    unittest.main()
