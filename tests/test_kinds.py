import unittest

from evenkinds.kinds import count, gift, things
from tests.samples import (
    FIVE, FOUR, HUNDRED, NONE, ONE, TEN, THREE, TWO, VAST, both, chain, either, small_kinds, things_again, way,
)

L = ("l", ())
R = ("r", ())


class Count(unittest.TestCase):
    def test_each_form(self):
        self.assertEqual(count(NONE), 0)
        self.assertEqual(count(ONE), 1)
        self.assertEqual(count(either(THREE, FIVE)), 8)
        self.assertEqual(count(both(THREE, FIVE)), 15)
        self.assertEqual(count(way(THREE, FIVE)), 125)
        self.assertEqual(count(way(FIVE, THREE)), 243)

    def test_none_within_each_form(self):
        self.assertEqual(count(either(NONE, THREE)), 3)
        self.assertEqual(count(either(THREE, NONE)), 3)
        self.assertEqual(count(either(NONE, NONE)), 0)
        self.assertEqual(count(both(NONE, THREE)), 0)
        self.assertEqual(count(both(THREE, NONE)), 0)
        self.assertEqual(count(way(THREE, NONE)), 0)
        self.assertEqual(count(way(NONE, THREE)), 1)

    def test_nought_to_the_power_of_nought_is_one(self):
        self.assertEqual(count(way(NONE, NONE)), 1)
        self.assertEqual(count(way(both(NONE, TWO), either(NONE, NONE))), 1)
        self.assertEqual(count(way(way(NONE, NONE), NONE)), 0)

    def test_far_more_than_a_hundred(self):
        self.assertEqual(count(way(HUNDRED, TWO)), 2 ** 100)
        self.assertEqual(count(way(HUNDRED, way(TEN, THREE))), 3 ** 1000)
        self.assertEqual(count(VAST), 2 ** 10000)
        self.assertEqual(count(both(VAST, either(VAST, ONE))), 2 ** 10000 * (2 ** 10000 + 1))
        self.assertEqual(count(way(HUNDRED, ONE)), 1)
        self.assertEqual(count(way(HUNDRED, NONE)), 0)
        self.assertEqual(count(way(NONE, VAST)), 1)

    def test_every_power_up_to_a_hundred(self):
        kind = NONE
        for exponent in range(101):
            self.assertEqual(count(way(kind, THREE)), 3 ** exponent)
            kind = either(ONE, kind)

    def test_twelve_deep(self):
        self.assertEqual(count(chain(11, lambda kind: either(kind, ONE), ONE)), 12)
        self.assertEqual(count(chain(11, lambda kind: either(kind, kind), ONE)), 2048)
        self.assertEqual(count(chain(10, lambda kind: both(TWO, kind), TWO)), 2048)
        self.assertEqual(count(chain(10, lambda kind: way(TWO, kind), TWO)), 2 ** 1024)
        self.assertEqual(count(chain(11, lambda kind: way(kind, ONE), NONE)), 1)
        # From none on, ways into none have 0, 1, 0, 1 .. things.
        self.assertEqual(count(chain(10, lambda kind: way(kind, NONE), NONE)), 0)
        self.assertEqual(count(chain(11, lambda kind: way(kind, NONE), NONE)), 1)

    def test_deeper_as_a_program_may_have_it(self):
        self.assertEqual(count(chain(3000, lambda kind: either(kind, ONE), NONE)), 3000)

    def test_a_number_never_a_truth(self):
        for kind in small_kinds(2):
            self.assertIs(type(count(kind)), int)

    def test_as_many_as_there_are_things(self):
        for kind in small_kinds(3):
            self.assertEqual(count(kind), len(things_again(kind)))


class Things(unittest.TestCase):
    def test_none_and_one(self):
        self.assertEqual(things(NONE), [])
        self.assertEqual(things(ONE), [()])

    def test_either(self):
        self.assertEqual(things(TWO), [L, R])
        self.assertEqual(things(either(TWO, ONE)), [("l", L), ("l", R), ("r", ())])
        self.assertEqual(things(either(ONE, TWO)), [("l", ()), ("r", L), ("r", R)])
        self.assertEqual(things(either(NONE, ONE)), [R])
        self.assertEqual(things(either(ONE, NONE)), [L])

    def test_both(self):
        self.assertEqual(things(FOUR), [("p", L, L), ("p", L, R), ("p", R, L), ("p", R, R)])
        self.assertEqual(things(both(NONE, TWO)), [])
        self.assertEqual(things(both(TWO, NONE)), [])
        self.assertEqual(things(both(TWO, ONE)), [("p", L, ()), ("p", R, ())])

    def test_way(self):
        self.assertEqual(things(way(TWO, TWO)), [("w", (L, L)), ("w", (L, R)), ("w", (R, L)), ("w", (R, R))])
        self.assertEqual(things(way(ONE, TWO)), [("w", (L,)), ("w", (R,))])
        self.assertEqual(things(way(TWO, ONE)), [("w", ((), ()))])

    def test_way_from_none_and_to_none(self):
        self.assertEqual(things(way(NONE, TWO)), [("w", ())])
        self.assertEqual(things(way(NONE, NONE)), [("w", ())])
        self.assertEqual(things(way(ONE, NONE)), [])
        self.assertEqual(things(way(HUNDRED, NONE)), [])

    def test_within_one_another(self):
        self.assertEqual(
            things(both(either(ONE, way(ONE, TWO)), TWO)),
            [
                ("p", ("l", ()), L), ("p", ("l", ()), R),
                ("p", ("r", ("w", (L,))), L), ("p", ("r", ("w", (L,))), R),
                ("p", ("r", ("w", (R,))), L), ("p", ("r", ("w", (R,))), R),
            ],
        )
        self.assertEqual(
            things(way(way(ONE, TWO), either(NONE, TWO))),
            [
                ("w", (("r", L), ("r", L))), ("w", (("r", L), ("r", R))),
                ("w", (("r", R), ("r", L))), ("w", (("r", R), ("r", R))),
            ],
        )

    def test_up_to_a_hundred(self):
        wide = (HUNDRED, both(FOUR, FIVE), way(FOUR, THREE), way(TWO, TEN), way(THREE, FOUR), way(HUNDRED, ONE))
        tall = (chain(11, lambda kind: either(kind, ONE), ONE), chain(11, lambda kind: both(kind, ONE), TWO))
        for kind in wide + tall + (way(way(TWO, TWO), THREE), either(way(FIVE, TWO), way(TWO, FIVE))):
            told = things(kind)
            self.assertEqual(told, things_again(kind))
            self.assertEqual(len(told), count(kind))
            self.assertLessEqual(len(told), 100)

    def test_all_small_kinds(self):
        for kind in small_kinds(3):
            told = things(kind)
            self.assertEqual(told, things_again(kind))
            self.assertEqual(len(told), count(kind))
            self.assertEqual(len(set(told)), len(told))

    def test_deeper_as_a_program_may_have_it(self):
        told = things(chain(500, lambda kind: both(ONE, kind), TWO))
        self.assertEqual(len(told), 2)

    def test_the_list_is_the_askers_own(self):
        for kind in (NONE, ONE, TWO, FOUR, way(TWO, TWO), way(NONE, ONE)):
            told = things(kind)
            before = list(told)
            told.append("another")
            told.reverse()
            self.assertEqual(things(kind), before)
            told.clear()
            self.assertEqual(things(kind), before)
            self.assertEqual(count(kind), len(before))


class Gift(unittest.TestCase):
    def test_each_thing(self):
        kind = way(THREE, FIVE)
        row = (("r", ("p", R, L)), ("l", ()), ("r", ("p", L, R)))
        self.assertEqual(gift(kind, ("w", row), ("l", ())), row[0])
        self.assertEqual(gift(kind, ("w", row), ("r", L)), row[1])
        self.assertEqual(gift(kind, ("w", row), ("r", R)), row[2])

    def test_all_of_small_ways(self):
        for a in (NONE, ONE, TWO, THREE, FOUR, way(TWO, TWO), both(ONE, THREE)):
            for b in (NONE, ONE, TWO, THREE):
                for thing in things(way(a, b)):
                    given = [gift(way(a, b), thing, one) for one in things(a)]
                    self.assertEqual(("w", tuple(given)), thing)

    def test_a_hundred(self):
        row = tuple(reversed(things(HUNDRED)))
        for place, thing in enumerate(things(HUNDRED)):
            self.assertEqual(gift(way(HUNDRED, HUNDRED), ("w", row), thing), row[place])

    def test_into_a_kind_with_very_many_things(self):
        kind = way(TWO, way(HUNDRED, TWO))
        row = (("w", (L,) * 100), ("w", (R,) * 100))
        self.assertEqual(gift(kind, ("w", row), L), row[0])
        self.assertEqual(gift(kind, ("w", row), R), row[1])

    def test_a_way_that_gives_a_way(self):
        kind = way(TWO, way(TWO, TWO))
        thing = ("w", (("w", (L, R)), ("w", (R, L))))
        self.assertEqual(gift(kind[2], gift(kind, thing, R), L), R)
        self.assertEqual(gift(kind[2], gift(kind, thing, R), R), L)


if __name__ == "__main__":
    unittest.main()
