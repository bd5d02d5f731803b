"""[15] and what [2] says of running: going on, and runs with a bound."""

import unittest

from evenkinds.book import is_step
from evenkinds.programs import kind_of
from evenkinds.running import going_on, run
from evenkinds.tables import table
from evenkinds.walked import walked
from tests.samples import (
    FOUR, NONE, ONE, STAR, THREE, TWO, Total, both, chain, either, name, replaced_again, run_again, step_again, way,
)

LEFT, RIGHT = ("left", ONE, STAR), ("right", ONE, STAR)
GOES = ("let", RIGHT, name(0))
NOT = ("way", TWO, ("case", name(0), RIGHT, LEFT))


class GoingOn(unittest.TestCase):
    def goes(self, program, place, word, other, names=()):
        told = going_on(program)
        one = program
        for number in place:
            one = one[2] if one[0] == "never" else one[1]
        self.assertEqual(told, (place, word, one, other, None))
        self.assertIs(type(told), tuple)
        kind_of(program, names)
        self.assertTrue(is_step(word, one, other, names))
        self.assertEqual(walked(program, names, [told]), replaced_again(program, place, other))

    def test_let(self):
        self.goes(GOES, (), "let", RIGHT)
        self.goes(("let", GOES, ("pair", name(0), STAR)), (), "let", ("pair", GOES, STAR))
        self.goes(("let", STAR, GOES), (), "let", GOES)

    def test_give(self):
        self.goes(("give", NOT, GOES), (), "give", ("case", GOES, RIGHT, LEFT))
        self.goes(("give", ("let", NOT, name(0)), GOES), (0,), "let", NOT)

    def test_first_and_second(self):
        self.goes(("first", ("pair", GOES, STAR)), (), "first", GOES)
        self.goes(("second", ("pair", GOES, STAR)), (), "second", STAR)
        self.goes(("first", ("let", STAR, ("pair", GOES, STAR))), (0,), "let", ("pair", GOES, STAR))
        self.goes(("second", ("first", ("pair", ("pair", STAR, STAR), STAR))), (0,), "first", ("pair", STAR, STAR))

    def test_case(self):
        self.goes(("case", LEFT, ("pair", name(0), GOES), ("pair", STAR, RIGHT)), (), "left", ("pair", STAR, GOES))
        self.goes(("case", RIGHT, ("pair", STAR, RIGHT), ("pair", name(0), GOES)), (), "right", ("pair", STAR, GOES))
        self.goes(("case", GOES, STAR, STAR), (0,), "let", RIGHT)
        self.goes(("case", ("left", ONE, GOES), name(0), LEFT), (), "left", GOES)

    def test_never(self):
        self.goes(("never", TWO, ("first", ("pair", name(0), STAR))), (0,), "first", name(0), (NONE,))
        self.goes(("never", TWO, ("never", NONE, ("let", name(0), name(0)))), (0, 0), "let", name(0), (NONE,))
        self.goes(("case", ("never", TWO, ("let", name(0), name(0))), STAR, STAR), (0, 0), "let", name(0), (NONE,))
        self.assertIsNone(going_on(("never", TWO, name(0))))

    def test_deep_within(self):
        program = ("first", ("give", ("case", ("second", GOES_TO_PAIR), NOT_PAIRED, NOT_PAIRED), LEFT))
        self.assertEqual(going_on(program)[:2], ((0, 0, 0, 0), "let"))

    def test_what_does_not_go_on(self):
        for program in (
            STAR, name(0), ("pair", GOES, GOES), ("left", ONE, GOES), ("right", ONE, GOES), ("way", TWO, GOES),
            ("first", name(0)), ("second", name(1)), ("give", name(0), GOES), ("case", name(0), GOES, GOES),
            ("never", ONE, name(0)), ("first", ("second", name(0))), ("case", ("first", name(2)), GOES, GOES),
            ("give", ("give", name(0), GOES), GOES),
        ):
            self.assertIsNone(going_on(program))
            self.assertEqual(run(program), (program, 0))

    def test_many_programs(self):
        gone = 0
        for seed in range(150):
            maker = Total(seed)
            names = ((), (TWO,), (NONE, TWO))[seed % 3]
            program = maker.of_kind(maker.some_kind(names), names, 5)
            told, found = going_on(program), step_again(program)
            self.assertEqual(told, None if found is None else found + (None,))
            gone += found is not None
        self.assertGreater(gone, 50)

    def test_far_deeper(self):
        program = chain(2000, lambda one: ("first", ("pair", one, STAR)), GOES)
        self.assertEqual(going_on(program)[:2], ((), "first"))
        program = chain(2000, lambda one: ("case", one, LEFT, RIGHT), GOES)
        self.assertEqual(going_on(program), ((0,) * 2000, "let", GOES, RIGHT, None))


GOES_TO_PAIR = ("let", ("pair", STAR, RIGHT), name(0))
NOT_PAIRED = ("way", TWO, ("pair", name(0), STAR))


class Run(unittest.TestCase):
    def test_without_a_bound(self):
        self.assertEqual(run(("give", NOT, GOES)), (LEFT, 3))
        self.assertEqual(run(STAR), (STAR, 0))
        self.assertEqual(run(("let", GOES, ("pair", name(0), name(0)))), (("pair", GOES, GOES), 1))
        self.assertIs(type(run(STAR)), tuple)
        self.assertIs(type(run(STAR)[1]), int)

    def test_with_a_bound(self):
        program = ("give", NOT, GOES)
        came = run_again(program)
        self.assertEqual(len(came), 4)
        for most in range(4):
            self.assertEqual(run(program, most), (came[most], most))
            self.assertEqual(run(program, most=most), (came[most], most))
        for most in (3, 4, 5, 10000, 10 ** 30):
            self.assertEqual(run(program, most), (LEFT, 3))

    def test_with_nought(self):
        for program in (GOES, STAR, ("first", ("pair", STAR, STAR)), name(0)):
            self.assertEqual(run(program, 0), (program, 0))

    def test_over_names(self):
        program = ("case", ("first", ("pair", name(0), STAR)), ("let", name(0), name(2)), name(1))
        self.assertEqual(run(program), (("case", name(0), ("let", name(0), name(2)), name(1)), 1))
        program = ("give", ("way", TWO, ("pair", ("way", ONE, ("pair", name(1), name(3))), name(1))), name(1))
        self.assertEqual(run(program), (("pair", ("way", ONE, ("pair", name(2), name(2))), name(0)), 1))
        self.assertEqual(run(("never", TWO, ("let", STAR, ("let", name(0), name(2))))), (("never", TWO, name(0)), 2))

    def test_every_bound_of_many_programs(self):
        longest = 0
        for seed in range(250):
            maker = Total(seed)
            names = ((), (TWO, way(TWO, TWO)), (NONE, TWO))[seed % 3]
            program = maker.of_kind(maker.some_kind(names), names, 6)
            came = run_again(program)
            longest = max(longest, len(came))
            self.assertEqual(run(program), (came[-1], len(came) - 1))
            for most in range(len(came) + 1):
                self.assertEqual(run(program, most), (came[min(most, len(came) - 1)], min(most, len(came) - 1)))
        self.assertGreater(longest, 6)

    def test_kind_and_table_stay(self):
        for seed in range(120):
            maker = Total(seed)
            names = ((), (TWO, THREE), (both(TWO, ONE), NONE))[seed % 3]
            program = maker.of_kind(maker.some_kind(names), names, 6)
            kind, before = kind_of(program, names), table(program, names)
            step, here = going_on(program), program
            while step is not None:
                here = walked(here, names, [step])
                self.assertEqual((kind_of(here, names), table(here, names)), (kind, before))
                step = going_on(here)
            self.assertEqual(run(program)[0], here)

    def test_thousands_of_steps(self):
        twice = ("way", TWO, ("give", name(1), ("give", name(1), name(0))))
        program = ("let", NOT, chain(11, lambda one: ("let", twice, one), ("give", name(0), RIGHT)))
        self.assertEqual(run(program), (RIGHT, 6155))
        stopped, steps = run(program, 12)
        self.assertEqual(steps, 12)
        self.assertEqual(run(stopped), (RIGHT, 6155 - 12))

    def test_ten_thousand_by_itself(self):
        program = chain(10010, lambda one: ("let", STAR, one), STAR)
        here, steps = run(program)
        self.assertEqual((here[0], steps), ("let", 10000))
        self.assertEqual(run(here), (STAR, 10))
        self.assertEqual(run(program, 20000), (STAR, 10010))

    def test_doubled_and_doubled(self):
        program = chain(40, lambda one: ("let", ("pair", name(0), name(0)), one), chain(40, lambda one: ("first", one),
                                                                                           name(0)))
        self.assertEqual(run(("let", RIGHT, program)), (RIGHT, 81))

    def test_steps_with_other_forms_around(self):
        program = ("never", FOUR, ("first", ("give", ("way", TWO, ("pair", name(1), name(0))), name(1))))
        names = (NONE, either(ONE, ONE))
        self.assertEqual(run(program, 1), (("never", FOUR, ("first", ("pair", name(0), name(1)))), 1))
        self.assertEqual(run(program), (("never", FOUR, name(0)), 2))
        self.assertEqual(kind_of(program, names), FOUR)


if __name__ == "__main__":
    unittest.main()
