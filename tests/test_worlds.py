"""[10]: what a program tells at a row."""

import copy
import unittest

from evenkinds.worlds import told
from tests.samples import (
    FOUR, HUNDRED, NONE, ONE, STAR, THREE, TWO, VAST, Total, both, chain, either, kind_again, name, rows_again,
    things_again, told_again, way,
)

L, R = ("l", ()), ("r", ())
LEFT, RIGHT = ("left", ONE, STAR), ("right", ONE, STAR)
NOT = ("way", TWO, ("case", name(0), RIGHT, LEFT))


class Case(unittest.TestCase):
    def tells(self, thing, program, row=(), names=()):
        self.assertEqual(told(program, row, names), thing)


class EachForm(Case):
    def test_name(self):
        names = (TWO, ONE, THREE)
        row = (R, (), ("r", L))
        for number in range(3):
            self.tells(row[number], name(number), row, names)

    def test_twelve_names(self):
        names = (TWO, THREE, FOUR, way(TWO, TWO)) * 3
        row = tuple(things_again(kind)[number % 2] for number, kind in enumerate(names))
        for number in range(12):
            self.tells(row[number], name(number), row, names)

    def test_star(self):
        self.tells((), STAR)
        self.tells((), STAR, (R,), (TWO,))

    def test_pair(self):
        self.tells(("p", (), L), ("pair", STAR, LEFT))
        self.tells(("p", R, L), ("pair", name(1), name(0)), (L, R), (TWO, TWO))

    def test_first_and_second(self):
        self.tells(R, ("first", name(0)), (("p", R, ()),), (both(TWO, ONE),))
        self.tells((), ("second", name(0)), (("p", R, ()),), (both(TWO, ONE),))
        self.tells(L, ("first", ("pair", LEFT, RIGHT)))
        self.tells(R, ("second", ("pair", LEFT, RIGHT)))

    def test_left_and_right(self):
        self.tells(("l", R), ("left", THREE, name(0)), (R,), (TWO,))
        self.tells(("r", R), ("right", THREE, name(0)), (R,), (TWO,))

    def test_case(self):
        names = (either(TWO, THREE), ONE)
        program = ("case", name(0), ("left", THREE, name(0)), ("right", TWO, name(0)))
        for thing in things_again(names[0]):
            self.tells(thing, program, (thing, ()), names)
        program = ("case", name(0), ("pair", name(2), LEFT), ("pair", name(2), RIGHT))
        self.tells(("p", (), L), program, (("l", R), ()), names)
        self.tells(("p", (), R), program, (("r", ("l", ())), ()), names)

    def test_way(self):
        self.tells(("w", (L, R)), ("way", TWO, name(0)))
        self.tells(("w", (R, L)), NOT)
        self.tells(("w", ()), ("way", NONE, ("never", TWO, name(0))))
        self.tells(("w", (R, R, R)), ("way", THREE, name(1)), (R,), (TWO,))
        self.tells(("w", (("w", (L, L)), ("w", (R, R)))), ("way", TWO, ("way", TWO, name(1))))
        self.tells(("w", (("w", (L, R)), ("w", (L, R)))), ("way", TWO, ("way", TWO, name(0))))
        asked = things_again(FOUR)
        self.tells(("w", tuple(("p", a[2], a[1]) for a in asked)),
                   ("way", FOUR, ("pair", ("second", name(0)), ("first", name(0)))))

    def test_way_from_many(self):
        self.tells(("w", tuple(things_again(HUNDRED))), ("way", HUNDRED, name(0)))
        maps = things_again(way(THREE, FOUR))
        self.tells(("w", tuple(one[1][1] for one in maps)),
                   ("way", way(THREE, FOUR), ("give", name(0), ("right", ONE, LEFT))))

    def test_give(self):
        for thing in things_again(way(THREE, TWO)):
            for number, asked in enumerate(things_again(THREE)):
                self.tells(thing[1][number], ("give", name(1), name(0)), (asked, thing), (THREE, way(THREE, TWO)))
        self.tells(R, ("give", NOT, LEFT))
        self.tells(L, ("give", NOT, ("give", NOT, LEFT)))

    def test_give_of_ways_of_ways(self):
        twice = ("way", way(TWO, TWO), ("way", TWO, ("give", name(1), ("give", name(1), name(0)))))
        self.tells(("w", (L, R)), ("give", twice, NOT))
        self.tells(("w", tuple(("w", tuple(one[1]["lr".index(one[1][a][0])] for a in range(2)))
                               for one in things_again(way(TWO, TWO)))), twice)
        for thing in things_again(way(TWO, TWO)):
            self.tells(thing[1][1], ("give", ("way", way(TWO, TWO), ("give", name(0), RIGHT)), name(0)),
                       (thing,), (way(TWO, TWO),))

    def test_let(self):
        self.tells(R, ("let", RIGHT, name(0)))
        self.tells(L, ("let", RIGHT, name(1)), (L,), (TWO,))
        self.tells(("p", L, R), ("let", RIGHT, ("pair", name(1), name(0))), (L,), (TWO,))

    def test_never(self):
        never = ("never", TWO, name(0))
        self.tells(("w", ()), ("way", NONE, never))
        self.tells(("w", ()), ("way", both(TWO, NONE), ("never", VAST, ("second", name(0)))))
        self.tells(R, ("case", name(0), never, name(0)), (("r", R),), (either(NONE, TWO),))
        self.tells(R, ("case", name(0), name(0), never), (("l", R),), (either(TWO, NONE),))


class ManyPrograms(Case):
    def test_by_the_words(self):
        asked = 0
        for seed in range(300):
            maker = Total(seed)
            names = tuple(maker.chance.choice(maker.KINDS) for number in range(seed % 4))
            program = maker.of_kind(maker.some_kind(names), names, 3 + seed % 6)
            for row in rows_again(names)[:20]:
                self.tells(told_again(program, row, names), program, row, names)
                asked += 1
        self.assertGreater(asked, 500)

    def test_what_is_handed_in_stays(self):
        names = (way(TWO, TWO), TWO)
        program = ("let", ("give", name(0), name(1)), ("pair", name(0), ("give", name(1), name(0))))
        row = (("w", (R, L)), L)
        before = copy.deepcopy((program, row, names))
        self.tells(("p", R, L), program, row, names)
        self.tells(("p", R, L), program, row, names)
        self.assertEqual((program, row, names), before)


class Doubled(Case):
    """Things that double and double: told in few turns, since no part is walked twice."""

    def doubling(self, many, end):
        return chain(many, lambda one: ("let", ("pair", name(0), name(0)), one), end)

    def test_chains_of_lets(self):
        for many in (1, 5, 20, 25, 50):
            thing = told(("let", name(0), self.doubling(many, name(0))), (R,), (TWO,))
            for number in range(many):
                self.assertEqual((thing[0], len(thing)), ("p", 3))
                thing = thing[1 + number % 2]
            self.assertEqual(thing, R)

    def test_a_part_of_it(self):
        for word in ("first", "second"):
            asked = chain(58, lambda one: (word, one), name(0))
            program = ("let", LEFT, self.doubling(50, ("let", name(0), ("let", name(51), name(0)))))
            self.tells(L, program)
            self.tells(R, ("let", RIGHT, self.doubling(58, asked)))

    def test_within_other_forms(self):
        thing = told(("let", STAR, self.doubling(40, ("case", RIGHT, ("left", ONE, name(1)), ("left", ONE, name(1))))),
                     (), ())
        self.assertEqual(thing[0], "l")
        self.tells(("w", (L, R)), ("let", STAR, self.doubling(40, ("way", TWO, name(0)))))
        self.tells(R, ("let", STAR, self.doubling(40, ("give", ("way", TWO, name(0)), RIGHT))))

    def test_ways_that_ask_ways(self):
        # Each asks the one ahead twice, so that asked anew each time they would be asked 2 ** 40 times.
        twice = ("way", TWO, ("give", name(1), ("give", name(1), name(0))))
        program = chain(40, lambda one: ("let", twice, one), ("give", name(0), RIGHT))
        self.tells(R, ("let", NOT, program))

    def test_gives_within_ways(self):
        # Told whole, each way would tell what is within it twice.
        program = name(29)
        for number in range(29):
            program = ("give", ("way", TWO, program), ("case", name(0), RIGHT, LEFT))
        self.tells(R, ("give", ("way", TWO, program), RIGHT))

    def test_far_deeper(self):
        self.tells(R, chain(5000, lambda one: ("let", STAR, one), name(5000)), (R,), (TWO,))
        self.tells(L, chain(3001, lambda one: ("case", one, RIGHT, LEFT), RIGHT))
        thing = told(chain(3000, lambda one: ("left", NONE, one), STAR), (), ())
        for number in range(3000):
            self.assertEqual(thing[0], "l")
            thing = thing[1]
        self.assertEqual(thing, ())

    def test_sixty_deep(self):
        program = STAR
        for number in range(29):
            program = ("first", ("pair", program, name(0))) if number % 2 else ("let", program, ("pair", name(0), STAR))
            if kind_again(program, (TWO,)) != ONE:
                program = ("first", program)
        self.tells((), program, (R,), (TWO,))


if __name__ == "__main__":
    unittest.main()
