"""[20] of two programs, and what [2] says of them: the same table just where a row leads from one to the other."""

import copy
import unittest

from evenkinds.between import between
from evenkinds.names import put_in
from evenkinds.plain import plain_table
from evenkinds.programs import kind_of
from evenkinds.tables import table
from evenkinds.walked import reverse, walked
from tests.samples import (
    FOUR, NONE, ONE, STAR, THREE, TWO, Total, both, either, few, name, rows_again, size, small_kinds, table_again,
    way,
)

LEFT, RIGHT = ("left", ONE, STAR), ("right", ONE, STAR)
NOT = ("way", TWO, ("case", name(0), RIGHT, LEFT))
SMALL = few(small_kinds(3), 4)


class Between(unittest.TestCase):
    def asked(self, one, other, names=()):
        before = copy.deepcopy((one, other, names))
        row = between(one, other, names)
        if table_again(one, names) != table_again(other, names):
            self.assertIsNone(row)
        else:
            self.assertIs(type(row), list)
            self.assertEqual(walked(one, names, row), other)
            self.assertEqual(walked(other, names, reverse(row)), one)
        self.assertEqual(between(one, other, names), row)
        self.assertEqual((one, other, names), before)
        return row

    def alike(self, one, other, names=()):
        self.assertIsNotNone(self.asked(one, other, names))
        self.assertIsNotNone(self.asked(other, one, names))

    def unlike(self, one, other, names=()):
        self.assertIsNone(self.asked(one, other, names))
        self.assertIsNone(self.asked(other, one, names))

    def test_a_program_and_itself(self):
        for program, names in ((STAR, ()), (NOT, ()), (name(0), (TWO,)), (("give", NOT, name(0)), (TWO,)),
                               (("never", TWO, name(0)), (NONE,))):
            self.assertIsNotNone(self.asked(program, program, names))

    def test_closed(self):
        self.alike(("let", RIGHT, name(0)), RIGHT)
        self.alike(("give", NOT, LEFT), ("first", ("pair", RIGHT, STAR)))
        self.alike(("way", TWO, ("give", NOT, ("give", NOT, name(0)))), ("way", TWO, name(0)))
        self.unlike(LEFT, RIGHT)
        self.unlike(NOT, ("way", TWO, name(0)))

    def test_over_names(self):
        self.alike(name(0), ("case", name(0), LEFT, RIGHT), (TWO,))
        self.alike(name(0), STAR, (ONE,))
        self.alike(name(0), name(1), (both(ONE, ONE), both(ONE, ONE)))
        self.alike(name(0), ("pair", ("first", name(0)), ("second", name(0))), (FOUR,))
        self.alike(name(0), ("way", TWO, ("give", name(1), name(0))), (way(TWO, TWO),))
        self.alike(("give", name(0), ("give", name(0), ("give", name(0), name(1)))), ("give", name(0), name(1)),
                   (way(TWO, TWO), TWO))
        self.unlike(name(0), name(1), (TWO, TWO))
        self.unlike(("give", name(0), ("give", name(0), name(1))), ("give", name(0), name(1)), (way(TWO, TWO), TWO))

    def test_names_of_none(self):
        self.alike(LEFT, RIGHT, (NONE,))
        self.alike(LEFT, RIGHT, (TWO, both(TWO, NONE)))
        self.alike(LEFT, ("never", TWO, name(1)), (ONE, NONE))
        self.alike(NOT, ("way", TWO, LEFT), (either(NONE, NONE),))

    def test_every_form(self):
        names = (TWO, both(TWO, ONE))
        for program in (
            name(0), name(1), STAR, ("pair", name(0), name(1)), ("first", name(1)), ("second", name(1)),
            ("left", TWO, name(0)), ("right", TWO, name(0)), ("case", name(0), name(2), ("pair", LEFT, name(0))),
            ("way", TWO, ("pair", name(0), name(1))), ("give", NOT, name(0)), ("let", name(1), ("first", name(0))),
        ):
            kind = kind_of(program, names)
            self.alike(program, plain_table(names, kind, table(program, names)), names)
            self.alike(program, ("let", program, name(0)), names)
            self.alike(program, ("second", ("pair", name(0), program)), names)

    def test_steps_of_every_word(self):
        for seed in range(250):
            maker = Total(seed, SMALL)
            names = tuple(maker.chance.choice(SMALL) for number in range(seed % 3))
            word = ("let", "give", "first", "second", "left", "right", "star", "pair", "way", "split",
                    "never")[seed % 11]
            found = maker.step(word, maker.some_kind(names), names, 2)
            if found is not None and len(rows_again(names)) <= 8:
                self.alike(found[0], found[1], names)

    def test_programs_by_chance_at_the_bounds(self):
        alike, unlike = 0, 0
        for seed in range(1500):
            maker = Total(seed, SMALL[seed % 5::5] + [TWO, TWO])
            names = ((), (TWO, TWO, TWO), (FOUR, TWO), (way(TWO, TWO), TWO), (THREE,), (NONE, TWO))[seed % 6]
            kind = maker.chance.choice((TWO, TWO, both(TWO, ONE), way(ONE, TWO)))
            one, other = maker.of_kind(kind, names, 4), maker.of_kind(kind, names, 4)
            if max(size(one), size(other)) in range(10, 17):
                row = self.asked(one, other, names)
                alike += row is not None
                unlike += row is None
        self.assertGreater(alike, 50)
        self.assertGreater(unlike, 20)

    def test_just_where_the_tables_are_the_same(self):
        # All programs of a few parts over one name, each with each.
        programs = [name(0), LEFT, RIGHT, ("case", name(0), LEFT, RIGHT), ("case", name(0), RIGHT, LEFT),
                    ("let", name(0), name(0)), ("let", name(0), name(1)), ("let", LEFT, name(1)),
                    ("case", name(0), LEFT, LEFT), ("case", name(0), name(1), name(1)), ("give", NOT, name(0)),
                    ("give", NOT, ("give", NOT, name(0)))]
        for one in programs:
            for other in programs:
                self.asked(one, other, (TWO,))

    def test_the_askers_own(self):
        row = between(("let", RIGHT, name(0)), RIGHT, ())
        kept = list(row)
        row.append("changed")
        self.assertEqual(between(("let", RIGHT, name(0)), RIGHT, ()), kept)

    def test_put_in(self):
        body = ("case", name(0), ("pair", name(1), name(2)), ("pair", RIGHT, name(2)))
        for program in (LEFT, name(0), ("give", NOT, name(1))):
            self.alike(("let", program, body), put_in(body, program), (TWO, TWO))


if __name__ == "__main__":
    unittest.main()
