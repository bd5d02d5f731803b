"""What [24] wants of odd readings: a kind for each kind, and for each program over names one of that kind over theirs."""

import unittest

from evenkinds.book import WORDS
from evenkinds.kinds import count
from evenkinds.odd import odd_kind, odd_program
from evenkinds.programs import at_place, kind_of, replaced
from evenkinds.tables import table
from evenkinds.walked import names_at
from tests.samples import (
    FOUR, NONE, ONE, STAR, TWO, VAST, Total, both, either, few, is_empty, name, places, small_kinds, way,
)

SMALL = few(small_kinds(3), 4)
RIGHT = ("right", ONE, STAR)
NAMES = ((), (TWO,), (NONE,), (both(TWO, NONE), ONE), (way(ONE, TWO), NONE), (either(ONE, NONE), TWO), (both(ONE, TWO),))


class Kinds(unittest.TestCase):
    def test_how_many_things(self):
        """By the words of [24] for the last five, and never more than there are for the others."""
        def counted(word, kind):
            if kind[0] in ("none", "one"):
                return {("never", "none"): 1, ("star", "one"): 2}.get((word, kind[0]), count(kind))
            first, second = counted(word, kind[1]), counted(word, kind[2])
            many = {"either": first + second, "both": first * second, "way": second ** first}[kind[0]]
            return many * 2 if (word, kind[0]) in (("pair", "both"), ("way", "way"), ("split", "either")) else many

        for kind in small_kinds(3):
            for word in ("star", "pair", "way", "split", "never"):
                self.assertEqual(count(odd_kind(word, kind)), counted(word, kind))
            for word in WORDS[:6]:
                self.assertLessEqual(count(odd_kind(word, kind)), count(kind))

    def test_no_things_where_there_were_none(self):
        for kind in small_kinds(3):
            for word in WORDS:
                self.assertEqual(count(odd_kind(word, kind)) == 0, word != "never" and is_empty(kind))


class Programs(unittest.TestCase):
    def test_the_kind(self):
        for seed in range(220):
            maker = Total(seed, SMALL)
            names = NAMES[seed % len(NAMES)]
            kind = maker.some_kind(names)
            program = maker.of_kind(kind, names, 5)
            for word in WORDS:
                odd_names = tuple(odd_kind(word, one) for one in names)
                self.assertEqual(kind_of(odd_program(word, program, names), odd_names), odd_kind(word, kind))

    def test_steps_of_other_words_keep_the_table(self):
        many = dict.fromkeys(WORDS, 0)
        for seed in range(330):
            maker = Total(seed, SMALL[seed % 9::9] + [TWO, ONE])
            names = NAMES[seed % len(NAMES)]
            program = maker.of_kind(maker.some_kind(names), names, 3)
            place = maker.chance.choice(places(program))
            there = names_at(program, place, names)
            step = WORDS[seed % 11]
            found = maker.step(step, kind_of(at_place(program, place), there), there, 2)
            if found is None:
                continue
            pair = [replaced(program, place, one) for one in found[:2]]
            for word in WORDS:
                if word != step and self.is_bounded(word, pair, names):
                    odd_names = tuple(odd_kind(word, one) for one in names)
                    tables = [table(odd_program(word, one, names), odd_names) for one in pair]
                    self.assertEqual(tables[0], tables[1], (word, step))
                    many[word] += 1
        self.assertGreater(min(many.values()), 100)

    def is_bounded(self, word, programs, names):
        kinds = [kind_of(at_place(one, place), names_at(one, place, names)) for one in programs for place in places(one)]
        return all(count(odd_kind(word, kind)) <= 300 for kind in kinds)

    def test_forms_without_things(self):
        # What would be left out has no things, so that there is no first one to be told.
        names = (NONE,)
        for program in (
            ("let", name(0), name(1)), ("pair", name(0), STAR), ("pair", STAR, name(0)),
            ("first", ("pair", name(0), STAR)), ("second", ("pair", STAR, name(0))), ("left", ONE, name(0)),
            ("right", ONE, name(0)), ("case", ("left", ONE, name(0)), STAR, name(0)), ("way", NONE, name(0)),
            ("give", ("way", NONE, name(0)), name(0)), ("case", ("right", ONE, name(0)), name(0), STAR),
        ):
            kind = kind_of(program, names)
            for word in WORDS:
                odd_names = tuple(odd_kind(word, one) for one in names)
                self.assertEqual(kind_of(odd_program(word, program, names), odd_names), odd_kind(word, kind))

    def test_halves_with_very_many_things(self):
        program = ("let", ("way", NONE, ("never", VAST, name(0))), RIGHT)
        for word in ("let", "first", "left", "right", "second"):
            self.assertEqual(kind_of(odd_program(word, program, ()), ()), TWO)
        self.assertEqual(odd_kind("let", FOUR), FOUR)


if __name__ == "__main__":
    unittest.main()
