"""[20] of one program, and what [2] says of it: each program is led to the plain one of its table."""

import unittest

from evenkinds.leader import lead
from evenkinds.plain import plain_table
from evenkinds.programs import kind_of
from evenkinds.reckoning import steps_of
from evenkinds.tables import table
from evenkinds.walked import reverse, walked
from tests.samples import (
    FOUR, NONE, ONE, STAR, THREE, TWO, Total, both, chain, either, few, name, rows_again, size, small_kinds,
    things_again, way,
)

LEFT, RIGHT = ("left", ONE, STAR), ("right", ONE, STAR)
NOT = ("way", TWO, ("case", name(0), RIGHT, LEFT))
SMALL = few(small_kinds(3), 4)


class Lead(unittest.TestCase):
    def led(self, program, names=()):
        row = lead(program, names)
        self.assertIs(type(row), list)
        end = plain_table(names, kind_of(program, names), table(program, names))
        self.assertEqual(walked(program, names, row), end)
        self.assertEqual(walked(end, names, reverse(row)), program)
        row.append("changed by the asker")
        self.assertEqual(lead(program, names), row[:-1])
        return len(row) - 1

    def test_closed_programs(self):
        self.assertEqual(self.led(STAR), 0)
        self.assertEqual(self.led(RIGHT), 0)
        self.assertEqual(self.led(("pair", LEFT, RIGHT)), 0)
        self.led(("let", STAR, name(0)))
        self.led(("give", NOT, LEFT))
        self.led(("pair", ("first", ("pair", LEFT, STAR)), ("left", TWO, ("second", ("pair", STAR, STAR)))))
        self.led(("case", ("right", ONE, RIGHT), LEFT, ("give", NOT, name(0))))

    def test_ways(self):
        self.led(NOT)
        self.led(("way", TWO, name(0)))
        self.led(("way", TWO, ("give", NOT, ("give", NOT, name(0)))))
        self.led(("way", way(TWO, TWO), ("give", name(0), ("give", name(0), LEFT))))
        self.led(("way", NONE, ("never", FOUR, name(0))))
        self.led(("way", NONE, name(0)))
        self.led(("way", both(NONE, TWO), ("second", name(0))))
        self.led(("way", FOUR, ("pair", ("second", name(0)), ("first", name(0)))))
        self.led(("way", TWO, ("way", TWO, ("case", name(0), name(2), RIGHT))))

    def test_a_name_of_each_small_kind(self):
        for kind in SMALL:
            self.led(name(0), (kind,))
            self.led(("pair", name(0), name(0)), (kind,))

    def test_names_that_are_not_spoken_of(self):
        for kind in SMALL:
            self.led(STAR, (kind,))
            self.led(("left", ONE, name(1)), (kind, ONE))

    def test_two_names(self):
        for one in few(small_kinds(2) + [TWO, FOUR, THREE, way(TWO, TWO)], 4):
            for other in few(small_kinds(2) + [TWO, way(ONE, TWO)], 2):
                self.led(name(0), (one, other))
                self.led(("pair", name(1), name(0)), (other, one))

    def test_names_without_things(self):
        for kind in (NONE, both(TWO, NONE), both(NONE, TWO), either(NONE, NONE), way(ONE, NONE), way(TWO, NONE),
                     either(both(ONE, NONE), NONE), both(either(NONE, NONE), FOUR)):
            for program in (LEFT, name(0), ("pair", name(1), name(0)), ("way", TWO, name(1)), ("give", NOT, name(1))):
                self.led(program, (kind, TWO))
            self.led(RIGHT, (TWO, kind))
            self.led(name(0), (TWO, kind))

    def test_every_form_over_names(self):
        names = (TWO, both(TWO, ONE))
        for program in (
            name(0), name(1), STAR, ("pair", name(0), name(1)), ("first", name(1)), ("second", name(1)),
            ("left", TWO, name(0)), ("right", TWO, name(0)), ("case", name(0), name(2), ("pair", LEFT, name(0))),
            ("way", TWO, ("pair", name(0), name(1))), ("give", NOT, name(0)), ("give", NOT, ("first", name(1))),
            ("let", name(1), ("first", name(0))), ("let", ("first", name(1)), ("case", name(0), name(0), STAR)),
        ):
            self.led(program, names)
        self.led(("never", TWO, name(1)), (TWO, NONE))
        self.led(("never", TWO, ("give", name(0), name(1))), (way(TWO, NONE), TWO))
        self.led(("case", name(0), ("never", TWO, name(0)), name(0)), (either(NONE, TWO),))

    def test_at_the_bounds(self):
        led = 0
        for seed in range(4000):
            maker = Total(seed, SMALL[seed % 7::7] + [TWO, TWO, FOUR, way(TWO, TWO)])
            names = ((TWO, TWO, TWO), (FOUR, TWO), (way(TWO, TWO), TWO), (TWO, THREE), (both(TWO, FOUR),), (),
                     (either(FOUR, FOUR),), (maker.chance.choice(SMALL), TWO))[seed % 8]
            program = maker.of_kind(maker.some_kind(names), names, 5)
            if 14 <= size(program) <= 16:
                self.led(program, names)
                led += 1
        self.assertGreater(led, 150)

    def test_smaller_ones(self):
        for seed in range(400):
            maker = Total(seed, SMALL)
            names = tuple(maker.chance.choice(SMALL) for number in range(seed % 3))
            if len(rows_again(names)) <= 8:
                self.led(maker.of_kind(maker.some_kind(names), names, 2 + seed % 3), names)

    def test_kinds_of_one_thing(self):
        kinds = [kind for kind in small_kinds(3) if len(things_again(kind)) == 1 and kind != ONE]
        names = ((), (TWO,), (NONE,), (both(TWO, NONE), ONE), (way(ONE, TWO), TWO), (either(ONE, NONE), NONE),
                 (THREE, TWO), (either(NONE, both(ONE, ONE)), TWO))
        longest = 0
        for seed in range(400):
            maker = Total(seed, SMALL[seed % 9::9] + [TWO, ONE])
            program = maker.of_kind(kinds[seed * 7 % len(kinds)], names[seed % len(names)], 4)
            if size(program) <= 24:
                longest = max(longest, self.led(program, names[seed % len(names)]))
        self.assertGreater(longest, 10)

    def test_an_either_of_one_thing(self):
        for empty in (NONE, both(TWO, NONE), way(TWO, NONE), either(NONE, both(NONE, ONE))):
            for kind in (either(ONE, empty), either(empty, ONE), either(both(ONE, ONE), empty)):
                self.led(name(0), (kind,))
                self.led(("case", name(0), name(2), name(2)), (TWO, kind))
                self.led(("way", TWO, ("case", name(0), name(2), name(2))), (kind,))
                self.led(("give", name(1), name(0)), (TWO, way(TWO, kind)))
                self.led(("first", name(0)), (both(kind, TWO),))

    def test_long_runs(self):
        twice = ("way", TWO, ("give", name(1), ("give", name(1), name(0))))
        program = ("let", NOT, ("let", twice, ("let", twice, ("give", name(0), RIGHT))))
        self.led(program)
        self.led(("let", NOT, ("give", twice, name(1))), (TWO,))
        long = ("let", NOT, chain(5, lambda one: ("let", twice, one), ("give", name(0), RIGHT)))
        self.assertGreater(steps_of(long), 100)
        self.led(long)

    def test_somewhat_beyond_the_bounds(self):
        for seed in range(60):
            maker = Total(seed)
            names = ((FOUR, FOUR), (way(THREE, TWO), TWO), (TWO, TWO, TWO, TWO), (either(FOUR, FOUR), ONE))[seed % 4]
            self.led(maker.of_kind(maker.some_kind(names), names, 5), names)

    def test_things_of_ones_alone(self):
        kind = chain(8, lambda one: both(one, one), ONE)
        self.led(name(0), (kind,))
        self.led(name(0), (way(kind, ONE),))
        self.assertEqual(len(things_again(kind)), 1)


if __name__ == "__main__":
    unittest.main()
