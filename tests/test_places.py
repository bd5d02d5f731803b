import unittest

from evenkinds.programs import at_place, inner, replaced
from tests.samples import (
    FOUR, ONE, ONE_OF_EACH, STAR, THREE, TWO, Maker, chain, name, parts_again, places,
)

# It has no kind: a star is no both, and there is no name 7.
ODD = ("case", ("first", STAR), ("pair", ("left", TWO, name(7)), STAR), ("never", FOUR, ("let", STAR, name(1))))


class Inner(unittest.TestCase):
    def test_each_form(self):
        t, u, v = ("first", name(0)), ("left", ONE, STAR), name(2)
        self.assertEqual(inner(name(3)), [])
        self.assertEqual(inner(STAR), [])
        self.assertEqual(inner(("pair", t, u)), [t, u])
        self.assertEqual(inner(("first", t)), [t])
        self.assertEqual(inner(("second", t)), [t])
        self.assertEqual(inner(("left", TWO, t)), [t])
        self.assertEqual(inner(("right", TWO, t)), [t])
        self.assertEqual(inner(("case", t, u, v)), [t, u, v])
        self.assertEqual(inner(("way", TWO, t)), [t])
        self.assertEqual(inner(("give", t, u)), [t, u])
        self.assertEqual(inner(("let", t, u)), [t, u])
        self.assertEqual(inner(("never", TWO, t)), [t])

    def test_the_list_is_the_askers_own(self):
        for program in ONE_OF_EACH:
            told = inner(program)
            before = list(told)
            told.append(STAR)
            told[0] = name(9)
            self.assertEqual(inner(program), before)
            told.clear()
            self.assertEqual(inner(program), before)

    def test_a_list_each_time(self):
        for program in ONE_OF_EACH:
            self.assertIs(type(inner(program)), list)
            self.assertIsNot(inner(program), inner(program))


class AtPlace(unittest.TestCase):
    def test_the_whole(self):
        for program in ONE_OF_EACH + (ODD,):
            self.assertEqual(at_place(program, ()), program)

    def test_several_deep(self):
        self.assertEqual(at_place(ODD, (0,)), ("first", STAR))
        self.assertEqual(at_place(ODD, (0, 0)), STAR)
        self.assertEqual(at_place(ODD, (1, 0)), ("left", TWO, name(7)))
        self.assertEqual(at_place(ODD, (1, 0, 0)), name(7))
        self.assertEqual(at_place(ODD, (1, 1)), STAR)
        self.assertEqual(at_place(ODD, (2,)), ("never", FOUR, ("let", STAR, name(1))))
        self.assertEqual(at_place(ODD, (2, 0, 1)), name(1))

    def test_a_number_too_great(self):
        for program in ONE_OF_EACH:
            many = len(parts_again(program))
            for number in (many, many + 1, many + 50, 10 ** 30):
                self.assertIsNone(at_place(program, (number,)))
        self.assertIsNone(at_place(ODD, (0, 1)))
        self.assertIsNone(at_place(ODD, (2, 0, 2)))
        self.assertIsNone(at_place(ODD, (3, 0)))

    def test_a_number_below_nought(self):
        for program in ONE_OF_EACH:
            for number in (-1, -2, -3, -4, -10 ** 30):
                self.assertIsNone(at_place(program, (number,)))
        self.assertIsNone(at_place(ODD, (2, 0, -1)))
        self.assertIsNone(at_place(ODD, (-1, 0)))

    def test_beneath_a_name_or_a_star(self):
        for number in (0, 1, 2):
            self.assertIsNone(at_place(name(0), (number,)))
            self.assertIsNone(at_place(STAR, (number,)))
            self.assertIsNone(at_place(ODD, (1, 0, 0, number)))
            self.assertIsNone(at_place(ODD, (0, 0, number)))
            self.assertIsNone(at_place(ODD, (0, 0, number, 0)))

    def test_each_place_of_many_programs(self):
        for seed in range(40):
            program = Maker(seed).any_program(6)
            for place in places(program):
                here = program
                for number in place:
                    here = parts_again(here)[number]
                self.assertEqual(at_place(program, place), here)

    def test_very_deep(self):
        program = chain(3000, lambda inside: ("pair", STAR, inside), name(5))
        self.assertEqual(at_place(program, (1,) * 3000), name(5))
        self.assertIsNone(at_place(program, (1,) * 3001))


class Replaced(unittest.TestCase):
    def test_the_whole(self):
        for program in ONE_OF_EACH + (ODD,):
            self.assertEqual(replaced(program, (), name(8)), name(8))

    def test_each_form(self):
        new = ("second", name(9))
        t, u, v = name(0), STAR, name(1)
        self.assertEqual(replaced(("pair", t, u), (0,), new), ("pair", new, u))
        self.assertEqual(replaced(("pair", t, u), (1,), new), ("pair", t, new))
        self.assertEqual(replaced(("first", t), (0,), new), ("first", new))
        self.assertEqual(replaced(("second", t), (0,), new), ("second", new))
        self.assertEqual(replaced(("left", TWO, t), (0,), new), ("left", TWO, new))
        self.assertEqual(replaced(("right", THREE, t), (0,), new), ("right", THREE, new))
        self.assertEqual(replaced(("case", t, u, v), (0,), new), ("case", new, u, v))
        self.assertEqual(replaced(("case", t, u, v), (1,), new), ("case", t, new, v))
        self.assertEqual(replaced(("case", t, u, v), (2,), new), ("case", t, u, new))
        self.assertEqual(replaced(("way", TWO, t), (0,), new), ("way", TWO, new))
        self.assertEqual(replaced(("give", t, u), (0,), new), ("give", new, u))
        self.assertEqual(replaced(("give", t, u), (1,), new), ("give", t, new))
        self.assertEqual(replaced(("let", t, u), (0,), new), ("let", new, u))
        self.assertEqual(replaced(("let", t, u), (1,), new), ("let", t, new))
        self.assertEqual(replaced(("never", FOUR, t), (0,), new), ("never", FOUR, new))

    def test_deep_within_and_all_beside_it_as_it_was(self):
        self.assertEqual(
            replaced(ODD, (1, 0, 0), ("first", STAR)),
            ("case", ("first", STAR), ("pair", ("left", TWO, ("first", STAR)), STAR),
             ("never", FOUR, ("let", STAR, name(1)))),
        )
        self.assertEqual(
            replaced(ODD, (2, 0, 0), name(4)),
            ("case", ("first", STAR), ("pair", ("left", TWO, name(7)), STAR),
             ("never", FOUR, ("let", name(4), name(1)))),
        )

    def test_names_stay_as_they_are(self):
        self.assertEqual(replaced(("way", TWO, ("let", STAR, name(0))), (0, 1), name(0)),
                         ("way", TWO, ("let", STAR, name(0))))
        self.assertEqual(replaced(("let", STAR, name(0)), (1,), name(3)), ("let", STAR, name(3)))

    def test_each_place_of_many_programs(self):
        new = ("let", name(11), name(12))
        for seed in range(40):
            program = Maker(seed).any_program(6)
            every = places(program)
            for place in every:
                told = replaced(program, place, new)
                self.assertEqual(at_place(told, place), new)
                for other in every:
                    apart = other[:len(place)] != place and place[:len(other)] != other
                    if apart:
                        self.assertEqual(at_place(told, other), at_place(program, other))
                self.assertEqual(replaced(told, place, at_place(program, place)), program)

    def test_very_deep(self):
        program = chain(3000, lambda inside: ("let", STAR, inside), name(5))
        told = replaced(program, (1,) * 3000, name(6))
        for number in range(3000):
            self.assertEqual(told[:2], ("let", STAR))
            told = told[2]
        self.assertEqual(told, name(6))


if __name__ == "__main__":
    unittest.main()
