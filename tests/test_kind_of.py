import subprocess
import sys
import unittest
from pathlib import Path

from evenkinds.errors import NoKind
from evenkinds.programs import kind_of, replaced
from tests.samples import (
    FOUR, HUNDRED, NONE, ONE, STAR, THREE, TWO, VAST, Maker, both, chain, depth, either, kind_again, name, places,
    size, way,
)

# Twelve names of unlike kinds, one of them with very many things.
MANY = (
    NONE, ONE, TWO, THREE, both(TWO, THREE), either(THREE, TWO), way(TWO, THREE), VAST,
    either(NONE, NONE), both(NONE, ONE), way(NONE, VAST), way(ONE, NONE),
)


class Case(unittest.TestCase):
    def tells(self, kind, program, names=()):
        self.assertEqual(kind_of(program, names), kind)

    def refuses(self, program, names=()):
        with self.assertRaises(NoKind):
            kind_of(program, names)


class EachForm(Case):
    def test_name(self):
        for number, kind in enumerate(MANY):
            self.tells(kind, name(number), MANY)
        self.tells(VAST, name(0), (VAST,))

    def test_name_far_out(self):
        names = (ONE,) * 5000 + (VAST,) + (TWO,)
        self.tells(VAST, name(5000), names)
        self.tells(TWO, ("let", STAR, name(5002)), names)

    def test_star(self):
        self.tells(ONE, STAR)
        self.tells(ONE, STAR, MANY)

    def test_pair(self):
        self.tells(both(ONE, ONE), ("pair", STAR, STAR))
        self.tells(both(TWO, VAST), ("pair", name(2), name(7)), MANY)
        self.tells(both(VAST, TWO), ("pair", name(7), name(2)), MANY)

    def test_first_and_second(self):
        self.tells(TWO, ("first", name(4)), MANY)
        self.tells(THREE, ("second", name(4)), MANY)
        self.tells(ONE, ("first", ("pair", STAR, ("left", TWO, STAR))))
        self.tells(either(ONE, TWO), ("second", ("pair", STAR, ("left", TWO, STAR))))

    def test_left_and_right(self):
        self.tells(either(ONE, FOUR), ("left", FOUR, STAR))
        self.tells(either(FOUR, ONE), ("right", FOUR, STAR))
        self.tells(either(VAST, NONE), ("left", NONE, name(7)), MANY)
        self.tells(either(NONE, VAST), ("right", NONE, name(7)), MANY)

    def test_case(self):
        self.tells(ONE, ("case", ("left", FOUR, STAR), name(0), STAR))
        self.tells(TWO, ("case", name(5), name(3), name(0)), MANY)
        self.tells(THREE, ("case", name(5), name(0), name(4)), MANY)
        self.tells(both(THREE, VAST), ("case", name(5), ("pair", name(0), name(8)), ("pair", name(4), name(8))), MANY)

    def test_way(self):
        self.tells(way(TWO, TWO), ("way", TWO, name(0)))
        self.tells(way(TWO, ONE), ("way", TWO, STAR))
        self.tells(way(TWO, VAST), ("way", TWO, name(8)), MANY)
        self.tells(way(TWO, way(THREE, TWO)), ("way", TWO, ("way", THREE, name(1))))
        self.tells(way(TWO, way(THREE, THREE)), ("way", TWO, ("way", THREE, name(0))))

    def test_give(self):
        self.tells(THREE, ("give", name(6), name(2)), MANY)
        self.tells(VAST, ("give", name(10), name(0)), MANY)
        self.tells(both(TWO, TWO), ("give", ("way", TWO, ("pair", name(0), name(0))), ("left", ONE, STAR)))

    def test_let(self):
        self.tells(ONE, ("let", STAR, name(0)))
        self.tells(VAST, ("let", name(7), name(0)), MANY)
        self.tells(NONE, ("let", name(7), name(1)), MANY)
        self.tells(both(both(ONE, ONE), ONE), ("let", STAR, ("let", ("pair", name(0), name(0)),
                                                             ("pair", name(0), name(1)))))

    def test_never(self):
        self.tells(VAST, ("never", VAST, name(0)), MANY)
        self.tells(NONE, ("never", NONE, name(0)), MANY)
        self.tells(ONE, ("never", ONE, ("give", name(11), STAR)), MANY)


class UnderNames(Case):
    def test_the_new_one_is_nought_and_others_one_more(self):
        names = (THREE, FOUR)
        self.tells(way(TWO, both(TWO, both(THREE, FOUR))),
                   ("way", TWO, ("pair", name(0), ("pair", name(1), name(2)))), names)
        self.tells(both(ONE, both(THREE, FOUR)),
                   ("let", STAR, ("pair", name(0), ("pair", name(1), name(2)))), names)
        told = both(THREE, FOUR)
        self.tells(told, ("case", ("left", TWO, STAR), ("pair", name(1), name(2)), ("pair", name(1), name(2))), names)

    def test_only_the_inner_ones_that_are_told(self):
        names = (TWO, THREE)
        self.tells(TWO, ("let", name(0), name(0)), names)
        self.tells(both(TWO, THREE), ("pair", ("let", STAR, name(1)), name(1)), names)
        self.tells(both(way(ONE, TWO), TWO), ("pair", ("way", ONE, name(1)), name(0)), names)
        self.tells(both(ONE, TWO), ("pair", ("case", name(0), name(0), name(0)), name(0)), names)
        self.refuses(("let", name(2), STAR), names)
        self.refuses(("case", name(2), STAR, STAR), names)
        self.refuses(("pair", ("way", ONE, name(2)), name(2)), names)

    def test_both_sides_of_a_case_have_their_own(self):
        self.tells(TWO, ("case", name(0), name(0), name(2)), (either(TWO, ONE), TWO))
        self.tells(TWO, ("case", name(0), name(2), name(0)), (either(ONE, TWO), TWO))
        self.refuses(("case", name(0), name(0), name(0)), (either(ONE, TWO),))
        self.refuses(("case", name(0), name(0), STAR), (either(TWO, ONE),))
        self.tells(ONE, ("case", name(0), STAR, name(0)), (either(TWO, ONE),))

    def test_deep_under_many(self):
        program = name(59)
        for number in range(59):
            program = ("let", STAR, program)
        self.tells(VAST, program, (VAST, TWO))
        self.tells(way(TWO, way(THREE, way(FOUR, both(TWO, FOUR)))),
                   ("way", TWO, ("way", THREE, ("way", FOUR, ("pair", name(2), name(0))))))

    def test_after_a_name_has_gone(self):
        program = ("pair", ("pair", ("way", TWO, name(0)), ("let", STAR, name(0))),
                   ("pair", ("case", ("left", ONE, STAR), name(0), name(0)), name(0)))
        self.tells(both(both(way(TWO, TWO), ONE), both(ONE, THREE)), program, (THREE,))


class NoKindAtAll(Case):
    def test_a_name_that_is_not_there(self):
        self.refuses(name(0))
        self.refuses(name(12), MANY)
        self.refuses(name(10 ** 30), MANY)
        self.refuses(("let", STAR, name(1)))
        self.refuses(("way", TWO, name(13)), MANY)
        self.refuses(("case", ("left", ONE, STAR), name(1), STAR))
        self.refuses(("case", ("left", ONE, STAR), STAR, name(1)))

    def test_first_and_second_of_no_both(self):
        for number, kind in enumerate(MANY):
            if kind[0] != "both":
                self.refuses(("first", name(number)), MANY)
                self.refuses(("second", name(number)), MANY)

    def test_case_of_no_either(self):
        for number, kind in enumerate(MANY):
            if kind[0] != "either":
                self.refuses(("case", name(number), STAR, STAR), MANY)

    def test_case_with_unlike_sides(self):
        self.refuses(("case", name(2), STAR, name(3)), MANY)
        self.refuses(("case", name(2), name(3), STAR), MANY)

    def test_give_of_no_way(self):
        for number, kind in enumerate(MANY):
            if kind[0] != "way":
                self.refuses(("give", name(number), name(number)), MANY)
                self.refuses(("give", name(number), STAR), MANY)

    def test_give_of_another_kind(self):
        for number, kind in enumerate(MANY):
            if kind != TWO:
                self.refuses(("give", name(6), name(number)), MANY)

    def test_never_of_something(self):
        for number, kind in enumerate(MANY):
            if kind != NONE:
                self.refuses(("never", ONE, name(number)), MANY)

    def test_kinds_with_no_things_are_not_none(self):
        for kind in (either(NONE, NONE), both(NONE, ONE), both(ONE, NONE), way(ONE, NONE)):
            self.refuses(("never", ONE, name(0)), (kind,))

    def test_kinds_with_as_many_things_are_unlike(self):
        alike = (ONE, both(ONE, ONE), way(NONE, ONE), way(ONE, ONE), either(ONE, NONE), either(NONE, ONE))
        for one in alike:
            for other in alike:
                names = (TWO, one, other)
                program = ("case", name(0), name(2), name(3))
                if one == other:
                    self.tells(one, program, names)
                else:
                    self.refuses(program, names)

    def test_unlike_only_deep_within(self):
        def deep(end):
            return chain(3, lambda kind: both(ONE, either(way(TWO, kind), NONE)), end)

        for end, other in ((ONE, NONE), (ONE, TWO), (either(ONE, NONE), either(NONE, ONE)), (TWO, FOUR)):
            names = (TWO, way(deep(end), ONE), deep(end), deep(other))
            self.tells(ONE, ("give", name(1), name(2)), names)
            self.refuses(("give", name(1), name(3)), names)
            self.tells(deep(end), ("case", name(0), name(3), name(3)), names)
            self.refuses(("case", name(0), name(3), name(4)), names)

    def test_the_order_of_the_two(self):
        for word in ("either", "both", "way"):
            one, other = (word, ONE, TWO), (word, TWO, ONE)
            self.refuses(("case", name(0), name(2), name(3)), (TWO, one, other))
            self.refuses(("give", name(0), name(1)), (way(one, ONE), other))
            self.tells(ONE, ("give", name(0), name(1)), (way(one, ONE), one))
        self.refuses(("case", name(0), ("left", TWO, name(0)), ("right", TWO, name(0))), (TWO,))
        self.tells(either(ONE, ONE), ("case", name(0), ("left", ONE, name(0)), ("right", ONE, name(0))), (TWO,))

    def test_only_a_part_deep_within_has_none(self):
        bad = ("first", STAR)
        for around in (
            lambda one: ("pair", STAR, one), lambda one: ("pair", one, STAR), lambda one: ("left", ONE, one),
            lambda one: ("right", ONE, one), lambda one: ("way", TWO, one), lambda one: ("let", STAR, one),
            lambda one: ("let", one, STAR), lambda one: ("give", ("way", ONE, STAR), one),
            lambda one: ("give", one, STAR), lambda one: ("first", ("pair", STAR, one)),
            lambda one: ("second", ("pair", one, STAR)), lambda one: ("never", ONE, one),
            lambda one: ("case", ("left", ONE, STAR), STAR, one), lambda one: ("case", ("left", ONE, STAR), one, STAR),
            lambda one: ("case", one, STAR, STAR),
        ):
            self.refuses(around(bad))
            self.refuses(around(("pair", around(bad), STAR)))
            self.refuses(chain(20, around, bad))
            self.refuses(chain(20, around, name(40)))

    def test_a_let_whose_name_stands_nowhere(self):
        self.refuses(("let", ("give", STAR, STAR), STAR))
        self.refuses(("let", name(0), STAR))


class Large(Case):
    def test_programs_made_of_a_kind(self):
        largest = 0
        for seed in range(300):
            maker = Maker(seed)
            kind = maker.kind()
            names = tuple(maker.kind() for number in range(seed % 6)) + (NONE,)
            program = maker.of_kind(kind, names, 3 + seed % 7)
            largest = max(largest, size(program))
            self.tells(kind, program, names)
        self.assertGreater(largest, 200)

    def test_programs_with_one_part_exchanged(self):
        kinds, refused = 0, 0
        for seed in range(150):
            maker = Maker(seed)
            names = (NONE, ONE, TWO, both(TWO, ONE), way(TWO, ONE))
            program = maker.of_kind(maker.kind(), names, 6)
            for turn in range(4):
                place = maker.chance.choice(places(program))
                other = replaced(program, place, maker.any_program(2))
                told = kind_again(other, names)
                if told is None:
                    refused += 1
                    self.refuses(other, names)
                else:
                    kinds += 1
                    self.tells(told, other, names)
        self.assertGreater(kinds, 50)
        self.assertGreater(refused, 50)

    def test_any_programs(self):
        names = (NONE, TWO, both(ONE, TWO))
        for seed in range(400):
            program = Maker(seed).any_program(4)
            told = kind_again(program, names)
            if told is None:
                self.refuses(program, names)
            else:
                self.tells(told, program, names)

    def test_sixty_deep_with_fifteen_hundred_parts(self):
        steps = (
            lambda one: ("first", ("pair", one, ("way", NONE, ("never", VAST, name(0))))),
            lambda one: ("give", ("way", TWO, one), ("left", ONE, STAR)),
            lambda one: ("second", ("pair", ("way", TWO, name(0)), one)),
            lambda one: ("case", ("right", TWO, one), STAR, name(0)),
            lambda one: ("case", ("left", NONE, STAR), one, ("never", ONE, name(0))),
            lambda one: ("let", ("left", THREE, one), ("case", name(0), name(0), STAR)),
            lambda one: ("let", STAR, one),
        )
        branches = []
        for start in range(16):
            branch = STAR
            turn = start
            while depth(steps[turn % 7](branch)) <= 56:
                branch = steps[turn % 7](branch)
                turn += 1
            branches.append(("let", STAR, branch) if depth(branch) < 56 else branch)
        while len(branches) > 1:
            branches = [("pair", one, other) for one, other in zip(branches[::2], branches[1::2])]
        program = branches[0]
        self.assertEqual(depth(program), 60)
        self.assertGreater(size(program), 1400)
        told = kind_again(program, ())
        self.assertIsNotNone(told)
        self.tells(told, program)
        self.tells(told, program, MANY)
        deepest = max(places(program), key=len)
        self.refuses(replaced(program, deepest, ("first", STAR)))
        self.refuses(replaced(program, deepest, name(1000)), MANY)

    def test_every_form_sixty_deep(self):
        names = (NONE, TWO, ONE)
        for step, end in (
            (lambda one: ("pair", one, STAR), STAR), (lambda one: ("pair", STAR, one), STAR),
            (lambda one: ("first", ("pair", one, STAR)), STAR), (lambda one: ("second", ("pair", STAR, one)), STAR),
            (lambda one: ("left", TWO, one), STAR), (lambda one: ("right", TWO, one), STAR),
            (lambda one: ("way", TWO, one), STAR), (lambda one: ("let", STAR, one), name(60)),
            (lambda one: ("let", one, name(0)), STAR), (lambda one: ("never", NONE, one), name(0)),
            (lambda one: ("give", ("way", ONE, name(0)), one), STAR),
            (lambda one: ("case", ("left", ONE, STAR), one, STAR), STAR),
            (lambda one: ("case", ("left", ONE, STAR), STAR, one), STAR),
        ):
            program = chain(59 if depth(step(STAR)) == 2 else 29, step, end)
            told = kind_again(program, names)
            self.assertIsNotNone(told)
            self.tells(told, program, names)

    def test_far_deeper(self):
        self.tells(VAST, chain(3000, lambda one: ("let", STAR, one), name(3000)), (VAST,))
        self.refuses(chain(3000, lambda one: ("let", STAR, one), name(3001)), (VAST,))
        told = kind_of(chain(3000, lambda one: ("left", TWO, one), STAR), ())
        for number in range(3000):
            self.assertEqual((told[0], told[2]), ("either", TWO))
            told = told[1]
        self.assertEqual(told, ONE)

    def test_deep_kinds_are_compared(self):
        def deep(end):
            return chain(1500, lambda one: ("left", ONE, one), end)

        kind = kind_of(("case", ("left", ONE, STAR), deep(STAR), deep(STAR)), ())
        self.assertEqual(kind[0], "either")
        self.refuses(("case", ("left", ONE, STAR), deep(STAR), deep(("pair", STAR, STAR))))

    def test_kinds_that_double_and_double(self):
        # In a process of its own: if a kind were walked part by part, it would not end.
        asked = """
from evenkinds.errors import NoKind
from evenkinds.programs import kind_of
def doubled(end):
    program = ("name", 0)
    for number in range(50):
        program = ("let", ("pair", ("name", 0), ("name", 0)), program)
    return ("let", end, program)
star = ("star",)
two = ("left", ("one",), star)
kind = kind_of(("case", two, doubled(star), doubled(star)), ())
for number in range(50):
    assert kind[0] == "both"
    kind = kind[1 + number % 2]
assert kind == ("one",)
try:
    kind_of(("case", two, doubled(star), doubled(two)), ())
    print("told")
except NoKind:
    print("refused")
"""
        top = Path(__file__).resolve().parent.parent
        done = subprocess.run([sys.executable, "-c", asked], cwd=top, capture_output=True, text=True, timeout=60)
        self.assertEqual((done.stdout, done.stderr), ("refused\n", ""))


if __name__ == "__main__":
    unittest.main()
