"""[2] over the whole program: what it promises of two programs, of one, and of the book."""

import itertools
import unittest

from evenkinds.around import surrounded, surrounding
from evenkinds.between import between
from evenkinds.book import WORDS
from evenkinds.kept import kept, unlike
from evenkinds.leader import lead
from evenkinds.plain import plain_table
from evenkinds.programs import kind_of
from evenkinds.reckoning import steps_of
from evenkinds.running import going_on, run
from evenkinds.tables import table
from evenkinds.walked import reverse, walked
from tests.samples import (
    FOUR, NONE, ONE, STAR, TWO, Total, both, either, few, name, rows_again, small_kinds, things_again, way,
)

SMALL = few(small_kinds(3), 4)
ENDS = {("left", ONE, STAR), ("right", ONE, STAR)}


class Promise(unittest.TestCase):
    def programs(self, many, deep):
        for seed in range(many):
            maker = Total(seed, SMALL[seed % 7::7] + [TWO])
            names = tuple(maker.chance.choice(SMALL) for number in range(seed % 3))
            if len(rows_again(names)) <= 8:
                kind = maker.chance.choice((TWO, FOUR, both(ONE, TWO), way(TWO, TWO), either(TWO, ONE)))
                yield names, kind, [maker.of_kind(kind, names, deep) for turn in range(2)]

    def test_a_row_or_a_surrounding(self):
        rows, surroundings = 0, 0
        for names, kind, (one, other) in self.programs(400, 3):
            row, found = between(one, other, names), surrounding(one, other, names)
            if table(one, names) == table(other, names):
                rows += 1
                self.assertIsNone(found)
                self.assertEqual(walked(one, names, row), other)
                self.assertEqual(walked(other, names, reverse(row)), one)
            else:
                surroundings += 1
                self.assertIsNone(row)
                answers = {run(surrounded(program, names, found[0], found[1]))[0] for program in (one, other)}
                self.assertEqual(answers, ENDS)
        self.assertGreater(min(rows, surroundings), 50)

    def test_each_program_is_led_to_the_plain_one_of_its_table(self):
        for names, kind, programs in self.programs(200, 4):
            for program in programs:
                plain = plain_table(names, kind, table(program, names))
                self.assertEqual(walked(program, names, lead(program, names)), plain)
                self.assertEqual(table(plain, names), table(program, names))
                self.assertEqual(walked(plain, names, lead(plain, names)), plain)

    def test_each_table_is_that_of_just_one_plain_program(self):
        for names, kind in (((TWO,), FOUR), ((NONE, TWO), TWO), ((way(TWO, TWO),), TWO), ((either(ONE, NONE),), FOUR)):
            told = itertools.product(things_again(kind), repeat=len(rows_again(names)))
            programs = {plain_table(names, kind, list(things)): list(things) for things in told}
            self.assertEqual(len(programs), len(things_again(kind)) ** len(rows_again(names)))
            for program, things in programs.items():
                self.assertEqual(table(program, names), things)

    def test_running_goes_by_steps_and_ends_as_told(self):
        for names, kind, programs in self.programs(200, 5):
            for program in programs:
                if names == ():
                    here, gone = program, 0
                    while going_on(here) is not None:
                        here = walked(here, (), [going_on(here)])
                        gone += 1
                        self.assertEqual(kind_of(here, ()), kind)
                        self.assertEqual(table(here, ()), table(program, ()))
                    self.assertEqual((here, gone), run(program))
                    self.assertEqual(gone, steps_of(program))

    def test_no_word_can_be_spared(self):
        for word in WORDS:
            one, other, names, through = unlike(word)
            self.assertEqual(table(one, names), table(other, names))
            self.assertIsNotNone(between(one, other, names))
            self.assertNotEqual(kept(word, one, names), kept(word, other, names))
            # So a row from one to the other has a step of this word.
            self.assertIn(word, [step[1] for step in between(one, other, names)])

    def test_a_step_of_a_row_keeps_what_is_kept_for_other_words(self):
        for names, kind, (one, other) in self.programs(60, 2):
            here = one
            for step in between(one, other, names) or []:
                came = walked(here, names, [step])
                for word in ("let", "give", "first", "second", "left", "right"):
                    if word != step[1]:
                        self.assertEqual(kept(word, came, names), kept(word, here, names))
                here = came

    def test_programs_told_are_handed_on(self):
        for names, kind, programs in self.programs(60, 3):
            for program in programs:
                plain = walked(program, names, lead(program, names))
                again = walked(plain, names, reverse(lead(program, names)))
                self.assertEqual(again, program)
                self.assertEqual(between(plain, ("let", plain, name(0)), names) is None, False)


if __name__ == "__main__":
    unittest.main()
