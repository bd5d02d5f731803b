"""[22], [23] and what [2] says of unlike programs: surroundings in which both are run and tell unlike answers."""

import unittest

from evenkinds.around import surrounded, surrounding
from evenkinds.looks import looked
from evenkinds.names import put_in
from evenkinds.programs import at_place, kind_of
from evenkinds.running import run
from evenkinds.tables import rows, table
from evenkinds.worlds import told
from tests.samples import (
    FOUR, NONE, ONE, STAR, THREE, TWO, Total, both, chain, either, few, looks_again, name, plain_again, rows_again,
    small_kinds, surrounding_again, table_again, way,
)

L, R = ("l", ()), ("r", ())
LEFT, RIGHT = ("left", ONE, STAR), ("right", ONE, STAR)
NOT = ("way", TWO, ("case", name(0), RIGHT, LEFT))
SMALL = few(small_kinds(3), 4)


class Case(unittest.TestCase):
    def surrounds(self, program, names, row, looks):
        """[23] of a program that is surrounded; its answer is given back."""
        whole = surrounded(program, names, row, looks)
        self.assertEqual(kind_of(whole, ()), TWO)
        filled = program
        for kind, thing in zip(names, row):
            filled = put_in(filled, plain_again(kind, thing))
        here, found = whole, False
        for number in range(len(looks) + 2):
            found = found or here == filled
            here = at_place(here, (0,))
            if here is None:
                break
        self.assertTrue(found)
        end = looked(kind_of(program, names), told(program, row, names), looks)
        answer = L if end is not None and end[1][0] == "l" else R
        self.assertEqual(table(whole, ()), [answer])
        self.assertEqual(run(whole)[0], LEFT if answer == L else RIGHT)
        return answer

    def parts(self, one, other, names, wanted=None):
        found = surrounding(one, other, names)
        if wanted is not None:
            self.assertEqual(found, wanted)
        self.assertEqual(found, surrounding_again(one, other, names))
        self.assertEqual(surrounding(other, one, names), found)
        self.assertEqual(found is None, table_again(one, names) == table_again(other, names))
        if found is not None:
            self.assertEqual((type(found), type(found[0]), type(found[1])), (tuple, tuple, list))
            answers = [self.surrounds(program, names, found[0], found[1]) for program in (one, other)]
            self.assertEqual(sorted(answers), [L, R])


class Surrounding(Case):
    def test_over_no_names(self):
        self.parts(LEFT, RIGHT, (), ((), []))
        self.parts(("pair", LEFT, RIGHT), ("pair", LEFT, LEFT), (), ((), [("second",)]))
        self.parts(NOT, ("way", TWO, name(0)), (), ((), [("give", L)]))
        self.parts(("left", ONE, LEFT), ("left", ONE, RIGHT), (), ((), [("left",)]))
        self.parts(("right", ONE, LEFT), ("right", ONE, RIGHT), (), ((), [("right",)]))

    def test_the_first_row(self):
        self.parts(name(0), name(1), (TWO, TWO), ((L, R), []))
        self.parts(name(0), LEFT, (TWO,), ((R,), []))
        self.parts(name(0), ("case", name(0), RIGHT, LEFT), (TWO,), ((L,), []))

    def test_looks_ahead_of_rows(self):
        # At the first row they part by second, at the second by first.
        one = ("case", name(0), ("pair", LEFT, RIGHT), ("pair", RIGHT, LEFT))
        self.parts(one, ("pair", LEFT, LEFT), (TWO,), ((R,), [("first",)]))
        # At the first row they part by two looks, at the second by one.
        one = ("case", name(0), ("left", ONE, LEFT), ("right", TWO, STAR))
        self.parts(one, ("left", ONE, RIGHT), (TWO,), ((R,), []))
        one = ("case", name(0), ("way", TWO, name(0)), NOT)
        self.parts(one, ("way", TWO, LEFT), (TWO,), ((R,), [("give", L)]))

    def test_left_ahead_of_right(self):
        one = ("case", name(0), ("right", TWO, LEFT), ("left", TWO, LEFT))
        other = ("case", name(0), ("right", TWO, RIGHT), ("left", TWO, RIGHT))
        self.parts(one, other, (TWO,), ((R,), [("left",)]))

    def test_alike_programs(self):
        self.parts(name(0), ("case", name(0), LEFT, RIGHT), (TWO,))
        self.assertIsNone(surrounding(STAR, ("let", STAR, name(0)), ()))
        self.assertIsNone(surrounding(STAR, name(0), (ONE,)))

    def test_names_of_none(self):
        self.assertIsNone(surrounding(LEFT, RIGHT, (NONE,)))
        self.assertIsNone(surrounding(LEFT, RIGHT, (TWO, both(NONE, TWO))))
        self.parts(name(0), ("never", TWO, name(1)), (TWO, NONE))
        self.parts(LEFT, ("case", name(0), ("never", TWO, name(0)), RIGHT), (either(NONE, ONE),))

    def test_against_a_search_through_all(self):
        unlike = 0
        for seed in range(500):
            maker = Total(seed, SMALL[seed % 5::5] + [TWO, FOUR, way(TWO, TWO), both(either(TWO, ONE), TWO)])
            names = tuple(maker.chance.choice(SMALL) for number in range(seed % 3))
            kind = maker.chance.choice((TWO, FOUR, way(TWO, TWO), either(TWO, THREE), both(either(TWO, ONE), TWO),
                                        maker.some_kind(names)))
            one, other = maker.of_kind(kind, names, 4), maker.of_kind(kind, names, 4)
            self.parts(one, other, names)
            unlike += surrounding(one, other, names) is not None
        self.assertGreater(unlike, 50)

    def test_many_rows(self):
        names = (FOUR, FOUR, FOUR)
        one = ("pair", ("second", name(2)), ("first", name(0)))
        self.parts(one, ("pair", ("second", name(2)), ("case", ("second", name(0)), ("first", name(1)), RIGHT)), names)

    def test_the_askers_own(self):
        found = surrounding(name(0), LEFT, (TWO,))
        found[1].append("changed")
        self.assertEqual(surrounding(name(0), LEFT, (TWO,)), ((R,), []))

    def test_things_that_double(self):
        doubled = chain(50, lambda one: ("let", ("pair", name(0), name(0)), one), name(0))
        found = surrounding(("let", LEFT, doubled), ("let", name(0), doubled), (TWO,))
        self.assertEqual(found, ((R,), [("first",)] * 50))
        self.assertIsNone(surrounding(("let", name(0), doubled), ("let", ("case", name(0), LEFT, RIGHT), doubled),
                                      (TWO,)))


class Surrounded(Case):
    def test_the_form(self):
        whole = surrounded(name(0), (TWO,), (R,), [])
        self.assertEqual(at_place(whole, (0,)), RIGHT)
        whole = surrounded(name(1), (TWO, FOUR), (R, ("p", L, R)), [("first",)])
        self.assertEqual(at_place(whole, (0, 0)), ("pair", LEFT, RIGHT))

    def test_by_all_looks(self):
        # Not only by looks that part two programs: also by such as lead to a right, or nowhere.
        answers = []
        for seed in range(120):
            maker = Total(seed, SMALL)
            names = tuple(maker.chance.choice(SMALL) for number in range(seed % 3))
            kind = maker.chance.choice((TWO, FOUR, either(TWO, THREE), way(TWO, TWO), both(ONE, either(TWO, ONE)),
                                        either(both(TWO, ONE), way(TWO, either(ONE, TWO)))))
            program = maker.of_kind(kind, names, 4)
            for row in rows(names):
                for length in range(5):
                    for looks in looks_again(kind, length):
                        here = kind
                        for look in looks:
                            here = here[1] if look[0] in ("first", "left") else here[2]
                        if here[0] == "either":
                            answers.append(self.surrounds(program, names, row, looks))
        self.assertGreater(answers.count(L), 50)
        self.assertGreater(answers.count(R), 50)

    def test_names_that_are_ways(self):
        for row in rows_again((way(TWO, TWO), TWO)):
            self.surrounds(("give", name(0), name(1)), (way(TWO, TWO), TWO), row, [])
            self.surrounds(("pair", name(0), name(1)), (way(TWO, TWO), TWO), row, [("first",), ("give", R)])


if __name__ == "__main__":
    unittest.main()
