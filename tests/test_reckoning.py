"""[16]: how many steps the run of a closed program takes, told without going."""

import unittest

from evenkinds.reckoning import steps_of
from evenkinds.running import run
from tests.samples import NONE, ONE, STAR, TWO, Total, chain, name, run_again, way

LEFT, RIGHT = ("left", ONE, STAR), ("right", ONE, STAR)
# Three steps to a pair, and two more for the second of it.
SLOW = ("let", STAR, ("let", name(0), ("first", ("pair", ("pair", name(0), ("let", RIGHT, name(0))), STAR))))
ENDS = ("star", "pair", "left", "right", "way")


class StepsOf(unittest.TestCase):
    def takes(self, many, program):
        self.assertEqual(steps_of(program), many)
        self.assertIs(type(steps_of(program)), int)
        came = run_again(program)
        self.assertEqual(len(came) - 1, many)
        self.assertEqual(run(program), (came[-1], many))
        self.assertIn(came[-1][0], ENDS)

    def test_no_steps(self):
        for program in (STAR, ("pair", SLOW, SLOW), ("left", ONE, SLOW), ("right", ONE, SLOW), ("way", TWO, SLOW)):
            self.takes(0, program)

    def test_slow(self):
        self.takes(3, SLOW)
        self.takes(5, ("second", SLOW))
        self.takes(4, ("first", SLOW))

    def test_a_let_never_once_and_several_times(self):
        self.takes(1, ("let", SLOW, STAR))
        self.takes(1, ("let", SLOW, ("pair", name(0), name(0))))
        self.takes(1 + 3, ("let", SLOW, name(0)))
        self.takes(1 + 3 + 1, ("let", SLOW, ("first", name(0))))
        second = ("second", name(0))
        self.takes(1 + 5 + 1, ("let", SLOW, ("case", second, STAR, STAR)))
        self.takes(1 + 5 + 1 + 5 + 1, ("let", SLOW, ("case", second, STAR, ("case", ("second", name(1)), STAR, STAR))))
        self.takes(1 + 5 + 1, ("let", SLOW, ("case", second, ("second", name(1)), LEFT)))

    def test_a_give_never_once_and_several_times(self):
        def given(body):
            return ("give", ("way", ("both", ONE, TWO), body), SLOW)

        self.takes(1, given(STAR))
        self.takes(1 + 3, given(name(0)))
        self.takes(1 + 5 + 1 + 5, given(("case", ("second", name(0)), LEFT, ("second", name(1)))))
        self.takes(2 + 1 + 1, ("give", ("second", ("let", STAR, ("pair", STAR, ("way", ONE, ("let", STAR, name(0)))))),
                               STAR))

    def test_a_case_never_once_and_several_times(self):
        for word, place in (("left", 2), ("right", 3)):
            for many, body in ((1, STAR), (1 + 4, ("first", name(0))),
                               (1 + 5 + 1 + 5 + 1, ("case", ("second", name(0)), STAR,
                                                    ("case", ("second", name(1)), STAR, name(0))))):
                program = ["case", (word, ONE, SLOW), STAR, STAR]
                program[place] = body
                self.takes(many, tuple(program))

    def test_names_for_names(self):
        self.takes(1 + 1 + 1 + 3, ("let", SLOW, ("let", name(0), ("let", name(0), name(0)))))
        self.takes(2 + 3 + 1, ("let", SLOW, ("let", ("first", name(0)), name(0))))
        self.takes(2, ("let", SLOW, ("let", ("first", name(0)), STAR)))

    def test_parts_that_are_run_again(self):
        # The pair's second is run anew each time, as is the pair.
        part = ("second", name(0))
        self.takes(1 + 3 * 6, ("let", SLOW, ("case", part, STAR, ("case", ("second", name(1)), STAR,
                                                                 ("case", ("second", name(2)), STAR, STAR)))))

    def test_many_programs(self):
        longest = 0
        for seed in range(600):
            maker = Total(seed)
            program = maker.of_kind(maker.some_kind(()), (), 4 + seed % 5)
            came = run_again(program)
            longest = max(longest, len(came))
            self.takes(len(came) - 1, program)
        self.assertGreater(longest, 15)

    def test_thousands(self):
        negate = ("way", TWO, ("case", name(0), RIGHT, LEFT))
        twice = ("way", TWO, ("give", name(1), ("give", name(1), name(0))))
        for many in range(12):
            program = ("let", negate, chain(many, lambda one: ("let", twice, one), ("give", name(0), RIGHT)))
            self.assertEqual(steps_of(program), run(program)[1])
        self.assertEqual(steps_of(program), 6155)
        self.assertEqual(steps_of(chain(9999, lambda one: ("let", STAR, one), STAR)), 9999)

    def test_known_once(self):
        # Each is come upon twice, so the steps are many; those of each are reckoned once.
        program = chain(50, lambda one: ("let", ("case", name(0), name(1), name(1)), one), name(0))
        self.assertGreater(steps_of(("let", RIGHT, program)), 10 ** 14)
        self.assertEqual(steps_of(("let", RIGHT, program[2])), steps_of(("let", LEFT, program[2])))

    def test_closed_within_and_without_things(self):
        self.takes(0, ("way", NONE, ("never", TWO, name(0))))
        self.takes(1, ("give", ("way", way(NONE, NONE), LEFT), ("way", NONE, name(0))))


if __name__ == "__main__":
    unittest.main()
