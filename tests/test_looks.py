"""[21], [22]: looks at things, and the first ones that part two of them."""

import itertools
import unittest

from evenkinds.looks import looked, part
from tests.samples import (
    FOUR, HUNDRED, NONE, ONE, THREE, TWO, both, chain, either, few, looked_again, looks_again, part_again, part_by,
    small_kinds, things_again, way,
)

L, R = ("l", ()), ("r", ())


class Looked(unittest.TestCase):
    def test_no_looks(self):
        self.assertEqual(looked(TWO, R, []), (TWO, R))
        self.assertEqual(looked(ONE, (), []), (ONE, ()))

    def test_each_look(self):
        self.assertEqual(looked(both(TWO, ONE), ("p", R, ()), [("first",)]), (TWO, R))
        self.assertEqual(looked(both(TWO, ONE), ("p", R, ()), [("second",)]), (ONE, ()))
        self.assertEqual(looked(either(TWO, ONE), ("l", R), [("left",)]), (TWO, R))
        self.assertEqual(looked(either(ONE, TWO), ("r", L), [("right",)]), (TWO, L))
        for number, thing in enumerate(things_again(THREE)):
            self.assertEqual(looked(way(THREE, FOUR), ("w", tuple(things_again(FOUR)[:3])), [("give", thing)]),
                             (FOUR, things_again(FOUR)[number]))

    def test_a_side_that_is_not_so(self):
        self.assertIsNone(looked(either(TWO, ONE), ("r", ()), [("left",)]))
        self.assertIsNone(looked(either(TWO, ONE), ("l", R), [("right",)]))
        self.assertIsNone(looked(both(TWO, ONE), ("p", R, ()), [("first",), ("left",)]))
        self.assertIsNone(looked(either(both(TWO, ONE), ONE), ("r", ()), [("left",), ("first",), ("left",)]))

    def test_all_looks_at_all_things(self):
        for kind in few(small_kinds(3), 20):
            for thing in things_again(kind):
                for length in range(4):
                    for looks in looks_again(kind, length):
                        self.assertEqual(looked(kind, thing, looks), looked_again(kind, thing, looks))


class Part(unittest.TestCase):
    def test_each_form(self):
        self.assertEqual(part(TWO, L, R), [])
        self.assertEqual(part(TWO, R, L), [])
        self.assertEqual(part(either(TWO, ONE), ("l", L), ("l", R)), [("left",)])
        self.assertEqual(part(either(ONE, TWO), ("r", L), ("r", R)), [("right",)])
        self.assertEqual(part(FOUR, ("p", L, R), ("p", R, L)), [("first",)])
        self.assertEqual(part(FOUR, ("p", R, R), ("p", R, L)), [("second",)])
        self.assertEqual(part(way(THREE, TWO), ("w", (L, R, R)), ("w", (L, R, L))), [("give", ("r", R))])
        self.assertEqual(part(way(THREE, TWO), ("w", (L, R, R)), ("w", (L, L, L))), [("give", ("r", L))])

    def test_alike_things(self):
        for kind in few(small_kinds(3), 12) + [HUNDRED]:
            for thing in things_again(kind):
                self.assertIsNone(part(kind, thing, thing))

    def test_the_fewest_ahead_of_the_first(self):
        kind = both(either(TWO, NONE), TWO)
        self.assertEqual(part(kind, ("p", ("l", L), L), ("p", ("l", R), R)), [("second",)])
        self.assertEqual(part(kind, ("p", ("l", L), L), ("p", ("l", R), L)), [("first",), ("left",)])
        kind = way(TWO, both(both(TWO, TWO), either(TWO, TWO)))
        one = ("w", (("p", ("p", L, L), ("l", L)), ("p", ("p", L, L), ("l", L))))
        self.assertEqual(part(kind, one, ("w", (("p", ("p", R, L), ("l", L)), ("p", ("p", L, L), ("r", L))))),
                         [("give", R), ("second",)])
        self.assertEqual(part(kind, one, ("w", (("p", ("p", L, R), ("l", R)), ("p", ("p", R, L), ("l", L))))),
                         [("give", L), ("first",), ("second",)])

    def test_against_a_search_through_all_looks(self):
        pairs = 0
        for kind in few(small_kinds(3), 9):
            for one, other in itertools.product(things_again(kind), repeat=2):
                looks = part(kind, one, other)
                self.assertEqual(looks, part_again(kind, one, other))
                if one != other:
                    self.assertTrue(part_by(kind, one, other, looks))
                    self.assertIs(type(looks), list)
                pairs += 1
        self.assertGreater(pairs, 500)

    def test_deeper_kinds(self):
        for kind in (way(TWO, both(TWO, either(ONE, TWO))), both(way(TWO, TWO), either(TWO, FOUR)),
                     way(way(TWO, TWO), TWO), either(both(FOUR, TWO), way(TWO, THREE)), way(THREE, FOUR)):
            things = things_again(kind)
            for number, one in enumerate(things):
                other = things[(number * 7 + 3) % len(things)]
                self.assertEqual(part(kind, one, other), part_again(kind, one, other))
                self.assertEqual(part(kind, other, one), part(kind, one, other))

    def test_the_askers_own(self):
        looks = part(FOUR, ("p", L, R), ("p", R, L))
        looks.append("changed")
        self.assertEqual(part(FOUR, ("p", L, R), ("p", R, L)), [("first",)])

    def test_things_that_double(self):
        kind, one, other = TWO, L, R
        for number in range(40):
            kind, one, other = both(kind, kind), ("p", one, one), ("p", other, other)
        self.assertEqual(part(kind, one, other), [("first",)] * 40)
        self.assertIsNone(part(kind, one, one))

    def test_far_within(self):
        kind = chain(200, lambda inside: either(NONE, both(ONE, inside)), TWO)
        one, other = [chain(200, lambda inside: ("r", ("p", (), inside)), end) for end in (L, R)]
        self.assertEqual(part(kind, one, other), [("right",), ("second",)] * 200)


if __name__ == "__main__":
    unittest.main()
