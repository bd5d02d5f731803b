"""[13], [14] and what [2] says of steps: rows of steps that lead from program to program."""

import copy
import unittest

from evenkinds.book import WORDS
from evenkinds.errors import NoStep
from evenkinds.names import put_in
from evenkinds.programs import at_place, kind_of, replaced
from evenkinds.tables import table
from evenkinds.walked import names_at, reverse, walked
from tests.samples import (
    FOUR, NONE, ONE, STAR, THREE, TWO, Total, both, chain, either, name, places, table_again, way,
)

LEFT, RIGHT = ("left", ONE, STAR), ("right", ONE, STAR)


class NamesAt(unittest.TestCase):
    def test_the_whole(self):
        self.assertEqual(names_at(STAR, (), ()), ())
        self.assertEqual(names_at(("let", STAR, name(0)), (), (TWO, THREE)), (TWO, THREE))

    def test_under_a_way(self):
        program = ("way", THREE, ("way", TWO, name(1)))
        self.assertEqual(names_at(program, (0,), (FOUR,)), (THREE, FOUR))
        self.assertEqual(names_at(program, (0, 0), (FOUR,)), (TWO, THREE, FOUR))

    def test_under_a_let(self):
        program = ("let", ("pair", name(0), STAR), ("let", ("first", name(0)), name(0)))
        self.assertEqual(names_at(program, (0,), (TWO,)), (TWO,))
        self.assertEqual(names_at(program, (0, 1), (TWO,)), (TWO,))
        self.assertEqual(names_at(program, (1,), (TWO,)), (both(TWO, ONE), TWO))
        self.assertEqual(names_at(program, (1, 0, 0), (TWO,)), (both(TWO, ONE), TWO))
        self.assertEqual(names_at(program, (1, 1), (TWO,)), (TWO, both(TWO, ONE), TWO))

    def test_under_a_case(self):
        program = ("case", name(0), ("pair", name(0), STAR), ("pair", LEFT, name(0)))
        names = (either(TWO, ONE), NONE)
        self.assertEqual(names_at(program, (0,), names), names)
        self.assertEqual(names_at(program, (1,), names), (TWO,) + names)
        self.assertEqual(names_at(program, (1, 0), names), (TWO,) + names)
        self.assertEqual(names_at(program, (2, 1), names), (ONE,) + names)

    def test_elsewhere_none_more(self):
        program = ("first", ("pair", ("left", ONE, ("give", ("way", ONE, name(0)), STAR)), ("never", TWO, name(0))))
        for place in ((0,), (0, 0), (0, 0, 0), (0, 0, 0, 0), (0, 0, 0, 1), (0, 1), (0, 1, 0)):
            self.assertEqual(names_at(program, place, (NONE,)), (NONE,))
        self.assertEqual(names_at(program, (0, 0, 0, 0, 0), (NONE,)), (ONE, NONE))

    def test_each_place_has_a_kind_over_its_names(self):
        for seed in range(60):
            maker = Total(seed)
            names = (TWO, NONE, way(ONE, TWO))[:seed % 4]
            program = maker.of_kind(maker.some_kind(names), names, 5)
            for place in places(program):
                kind_of(at_place(program, place), names_at(program, place, names))


class Walked(unittest.TestCase):
    def leads(self, program, names, row, end):
        before = copy.deepcopy((program, names, row))
        self.assertEqual(walked(program, names, row), end)
        self.assertEqual(walked(end, names, reverse(row)), program)
        self.assertEqual((program, names, row), before)

    def refused(self, at, program, names, row):
        with self.assertRaises(NoStep) as taken:
            walked(program, names, row)
        self.assertEqual(taken.exception.at, at)
        self.assertIs(type(taken.exception.at), int)

    def test_no_steps(self):
        for program in (STAR, LEFT, ("let", STAR, name(0))):
            self.leads(program, (), [], program)

    def test_one_step(self):
        self.leads(("let", STAR, name(0)), (), [((), "let", ("let", STAR, name(0)), STAR, None)], STAR)
        self.leads(STAR, (), [((), "let", STAR, ("let", STAR, name(0)), None)], ("let", STAR, name(0)))

    def test_a_split(self):
        other = ("case", name(0), ("left", ONE, name(0)), ("right", ONE, name(0)))
        self.leads(name(0), (TWO,), [((), "split", name(0), other, name(0))], other)
        self.refused(0, name(0), (TWO,), [((), "split", name(0), other, None)])
        self.refused(0, name(0), (TWO,), [((), "split", name(0), other, name(1))])
        self.refused(0, name(0), (TWO,), [((), "split", name(0), other, STAR)])

    # From the way that gives a thing of two back, through a case, to one that has looked at it.
    LONG = ("way", TWO, ("let", ("pair", name(0), name(1)), ("first", ("pair", ("first", name(0)), STAR))))
    ROW = [
        ((0, 1), "first", ("first", ("pair", ("first", name(0)), STAR)), ("first", name(0)), None),
        ((0,), "let", ("let", ("pair", name(0), name(1)), ("first", name(0))), ("first", ("pair", name(0), name(1))),
         None),
        ((0,), "first", ("first", ("pair", name(0), name(1))), name(0), None),
        ((0,), "split", name(0), ("case", name(0), ("left", ONE, name(0)), ("right", ONE, name(0))), name(0)),
        ((0, 1, 0), "star", name(0), STAR, None),
        ((0, 2, 0), "star", name(0), STAR, None),
    ]
    END = ("way", TWO, ("case", name(0), LEFT, RIGHT))

    def test_several_at_deep_places(self):
        self.leads(self.LONG, (TWO,), self.ROW, self.END)
        for many in range(len(self.ROW)):
            came = walked(self.LONG, (TWO,), self.ROW[:many])
            self.leads(came, (TWO,), self.ROW[many:], self.END)
            self.assertEqual(table(came, (TWO,)), table_again(self.LONG, (TWO,)))

    def test_what_is_refused_and_where(self):
        for at, (place, word, one, other, through) in enumerate(self.ROW):
            def changed(*step):
                return self.ROW[:at] + [step] + self.ROW[at + 1:]

            for bad in (
                changed(place + (3,), word, one, other, through),
                changed((7,) + place, word, one, other, through),
                changed(place + (-1,), word, one, other, through),
                changed((0, 0, 0, 0, 0, 0, 0), word, one, other, through),
                changed(place[:-1], word, one, other, through),
                changed(place, word, ("first", ("pair", one, STAR)), other, through),
                changed(place, word, one, ("first", ("pair", other, STAR)), through),
                changed(place, word, other, one, through),
                changed(place, word, one, one, through),
                changed(place, word, one, ("first", STAR), through),
                changed(place, word, one, name(9), through),
                changed(place, "give" if word != "give" else "let", one, other, through),
                changed(place, "nothing", one, other, through),
            ):
                self.refused(at, self.LONG, (TWO,), bad)
                self.refused(at, self.LONG, (TWO,), bad[:at + 1])
        self.refused(3, self.LONG, (TWO,), self.ROW[:3] + [self.ROW[3][:4] + (None,)] + self.ROW[4:])

    def test_the_first_that_is_none(self):
        bad = ((5,), "let", STAR, STAR, None)
        self.refused(0, self.LONG, (TWO,), [bad, bad])
        self.refused(2, self.LONG, (TWO,), self.ROW[:2] + [bad] + self.ROW[2:] + [bad])
        self.refused(6, self.LONG, (TWO,), self.ROW + [bad])
        self.refused(1, self.LONG, (TWO,), self.ROW[:1] + self.ROW[:1])
        self.refused(0, self.LONG, (TWO,), list(reversed(self.ROW)))

    def test_the_names_there_and_not_others(self):
        program = ("let", LEFT, ("way", ONE, ("case", name(1), name(0), name(1))))
        self.leads(program, (), [((1, 0, 1), "star", name(0), STAR, None)],
                   ("let", LEFT, ("way", ONE, ("case", name(1), STAR, name(1)))))
        self.refused(0, program, (), [((1, 0, 0), "star", name(1), STAR, None)])
        self.refused(0, program, (), [((0,), "star", LEFT, STAR, None)])
        self.refused(0, ("pair", name(0), name(1)), (TWO, ONE), [((0,), "star", name(0), STAR, None)])
        self.leads(("pair", name(0), name(1)), (TWO, ONE), [((1,), "star", name(1), STAR, None)],
                   ("pair", name(0), STAR))

    def test_what_has_no_kind_there(self):
        program = ("pair", ("first", STAR), ("let", LEFT, name(0)))
        self.refused(0, program, (), [((0,), "star", ("first", STAR), STAR, None)])
        self.refused(0, ("let", ("first", STAR), name(0)), (), [((1,), "star", name(0), STAR, None)])
        self.refused(0, ("case", STAR, name(0), name(0)), (), [((1,), "star", name(0), STAR, None)])
        self.refused(0, ("case", name(4), name(0), name(0)), (), [((2,), "star", name(0), STAR, None)])

    def test_very_deep(self):
        deep = chain(1500, lambda one: ("way", ONE, one), ("let", name(0), name(0)))
        told = walked(deep, (), [((0,) * 1500, "let", ("let", name(0), name(0)), name(0), None)])
        self.assertEqual(at_place(told, (0,) * 1500), name(0))


class Reverse(unittest.TestCase):
    def test_the_form(self):
        row = [((), "let", 1, 2, None), ((0, 1), "split", 3, 4, 5)]
        self.assertEqual(reverse(row), [((0, 1), "split", 4, 3, 5), ((), "let", 2, 1, None)])
        self.assertEqual(row, [((), "let", 1, 2, None), ((0, 1), "split", 3, 4, 5)])
        self.assertEqual(reverse([]), [])
        self.assertEqual(reverse(reverse(row)), row)

    def test_the_askers_own(self):
        row = []
        told = reverse(row)
        told.append(1)
        self.assertEqual((row, reverse(row)), ([], []))


class StepsOfEveryWord(unittest.TestCase):
    """[2]: no step of the book leads to another kind or table."""

    NAMES = ((), (TWO,), (NONE,), (THREE, TWO), (both(TWO, NONE), ONE), (way(TWO, TWO),), (either(TWO, NONE), NONE))

    def surroundings(self, word, seed):
        """A program with a step of the word at some place of it, or None."""
        maker = Total(seed)
        names = self.NAMES[seed % len(self.NAMES)]
        program = maker.of_kind(maker.some_kind(names), names, 5)
        place = maker.chance.choice(places(program))
        there = names_at(program, place, names)
        kind = kind_of(at_place(program, place), there)
        found = maker.step(word, kind, there, 3)
        if found is None:
            return None
        one, other, through = found
        if maker.chance.random() < 0.5:
            one, other = other, one
        return names, replaced(program, place, one), (place, word, one, other, through)

    def test_kind_and_table_stay(self):
        for word in WORDS:
            made, deepest = 0, 0
            for seed in range(150):
                found = self.surroundings(word, seed)
                if found is None:
                    continue
                names, program, step = found
                came = walked(program, names, [step])
                self.assertEqual(came, replaced(program, step[0], step[3]))
                self.assertEqual(kind_of(came, names), kind_of(program, names))
                self.assertEqual(table(came, names), table(program, names))
                self.assertEqual(walked(came, names, reverse([step])), program)
                made += 1
                deepest = max(deepest, len(step[0]))
            self.assertGreater(made, 10, word)
            self.assertGreater(deepest, 2, word)

    def test_put_in_again_and_again(self):
        program = chain(12, lambda one: ("let", RIGHT, ("first", ("pair", one, name(0)))), name(5))
        row, here, place = [], program, ()
        for number in range(12):
            let = at_place(here, place)
            row.append((place, "let", let, put_in(let[2], let[1]), None))
            here = replaced(here, place, row[-1][3])
            place += (0, 0)
        self.assertEqual(walked(program, (), row), here)
        self.assertEqual(walked(here, (), reverse(row)), program)
        self.assertEqual(table(here, ()), table_again(program, ()))


if __name__ == "__main__":
    unittest.main()
