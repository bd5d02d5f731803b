"""[12]: which steps are of the book."""

import unittest

from evenkinds.book import WORDS, is_step
from evenkinds.names import lifted, put_in
from evenkinds.programs import kind_of
from evenkinds.tables import table
from tests.samples import (
    FOUR, NONE, ONE, STAR, THREE, TWO, VAST, Total, both, chain, either, kind_again, name, places, replaced_again,
    way,
)

LEFT, RIGHT = ("left", ONE, STAR), ("right", ONE, STAR)


class Case(unittest.TestCase):
    def step(self, word, one, other, names=(), through=None):
        self.assertIs(is_step(word, one, other, names, through), True)
        self.assertIs(is_step(word, other, one, names, through), True)
        for another in WORDS:
            if another not in (word, "star", "never"):
                self.assertIs(is_step(another, one, other, names), False, another)

    def none(self, word, one, other, names=(), through=None):
        self.assertIs(is_step(word, one, other, names, through), False)
        self.assertIs(is_step(word, other, one, names, through), False)


class Words(unittest.TestCase):
    def test_their_order(self):
        self.assertEqual(WORDS, ("let", "give", "first", "second", "left", "right", "star", "pair", "way", "split",
                                 "never"))


class Let(Case):
    def test_steps(self):
        self.step("let", ("let", LEFT, name(0)), LEFT)
        self.step("let", ("let", LEFT, ("pair", name(0), name(0))), ("pair", LEFT, LEFT))
        self.step("let", ("let", name(1), ("pair", name(0), name(1))), ("pair", name(1), name(0)), (TWO, THREE))
        self.step("let", ("let", name(1), ("way", FOUR, ("pair", name(1), name(2)))),
                  ("way", FOUR, ("pair", name(2), name(1))), (TWO, THREE))
        self.step("let", ("let", LEFT, RIGHT), RIGHT)
        self.step("let", ("let", name(0), ("never", VAST, name(0))), ("never", VAST, name(0)), (NONE,))

    def test_near_misses(self):
        self.none("let", ("let", LEFT, name(0)), RIGHT)
        self.none("let", ("let", LEFT, name(0)), ("let", LEFT, name(0)))
        self.none("let", ("let", LEFT, ("pair", name(0), name(0))), ("pair", LEFT, RIGHT))
        self.none("let", ("let", name(1), ("pair", name(0), name(1))), ("pair", name(0), name(1)), (TWO, TWO))
        self.none("let", ("let", name(0), name(1)), name(1), (TWO, TWO))
        self.none("let", ("let", STAR, LEFT), STAR)
        self.none("let", ("let", ("first", STAR), LEFT), LEFT)
        self.none("let", ("let", LEFT, name(1)), name(0))
        self.none("give", ("let", LEFT, name(0)), LEFT)


class Give(Case):
    def test_steps(self):
        self.step("give", ("give", ("way", TWO, name(0)), LEFT), LEFT)
        self.step("give", ("give", ("way", TWO, ("pair", name(0), name(1))), name(1)), ("pair", name(1), name(0)),
                  (THREE, TWO))
        self.step("give", ("give", ("way", NONE, ("never", TWO, name(0))), name(0)), ("never", TWO, name(0)), (NONE,))
        self.step("give", ("give", ("way", TWO, ("way", TWO, name(1))), name(0)), ("way", TWO, name(1)), (TWO,))

    def test_near_misses(self):
        self.none("give", ("give", ("way", TWO, name(0)), LEFT), RIGHT)
        self.none("give", ("give", ("way", THREE, name(0)), LEFT), LEFT)
        self.none("give", ("give", ("way", TWO, name(0)), STAR), STAR)
        self.none("give", ("give", ("way", TWO, ("way", TWO, name(1))), name(0)), ("way", TWO, name(0)), (TWO,))
        self.none("give", ("give", name(0), LEFT), LEFT, (way(TWO, TWO),))
        self.none("give", ("way", TWO, name(0)), ("way", TWO, name(0)))
        self.none("let", ("give", ("way", TWO, name(0)), LEFT), LEFT)


class FirstSecond(Case):
    def test_steps(self):
        self.step("first", ("first", ("pair", LEFT, STAR)), LEFT)
        self.step("second", ("second", ("pair", STAR, LEFT)), LEFT)
        self.step("first", ("first", ("pair", name(0), name(1))), name(0), (TWO, TWO))
        self.step("second", ("second", ("pair", name(0), name(1))), name(1), (TWO, TWO))
        self.step("first", ("first", ("pair", name(1), name(0))), name(1), (NONE, VAST))

    def test_near_misses(self):
        self.none("first", ("first", ("pair", LEFT, RIGHT)), RIGHT)
        self.none("second", ("second", ("pair", LEFT, RIGHT)), LEFT)
        self.none("first", ("second", ("pair", LEFT, RIGHT)), RIGHT)
        self.none("first", ("second", ("pair", LEFT, RIGHT)), LEFT)
        self.none("second", ("first", ("pair", LEFT, RIGHT)), LEFT)
        self.none("first", ("first", ("pair", name(0), name(1))), name(1), (TWO, TWO))
        self.none("first", ("first", name(0)), name(1), (both(TWO, TWO), TWO))
        self.none("first", ("first", ("pair", LEFT, ("first", STAR))), LEFT)
        self.none("first", ("first", ("pair", LEFT, name(0))), LEFT)
        self.none("second", ("second", ("pair", name(3), LEFT)), LEFT)


class LeftRight(Case):
    def test_steps(self):
        self.step("left", ("case", LEFT, ("pair", name(0), RIGHT), ("pair", name(0), LEFT)), ("pair", STAR, RIGHT))
        self.step("right", ("case", RIGHT, ("pair", name(0), RIGHT), ("pair", name(0), LEFT)), ("pair", STAR, LEFT))
        self.step("left", ("case", ("left", NONE, name(0)), name(0), ("never", TWO, name(0))), name(0), (TWO,))
        self.step("right", ("case", ("right", NONE, name(0)), ("never", TWO, name(0)), name(0)), name(0), (TWO,))
        self.step("left", ("case", ("left", TWO, name(1)), ("pair", name(0), name(1)), ("pair", name(2), name(0))),
                  ("pair", name(1), name(0)), (TWO, THREE))

    def test_near_misses(self):
        case = ("case", LEFT, ("pair", name(0), RIGHT), ("pair", name(0), LEFT))
        self.none("left", case, ("pair", STAR, LEFT))
        self.none("right", case, ("pair", STAR, LEFT))
        self.none("right", case, ("pair", STAR, RIGHT))
        self.none("left", ("case", RIGHT) + case[2:], ("pair", STAR, LEFT))
        self.none("left", ("case", name(0)) + case[2:], ("pair", STAR, RIGHT), (TWO,))
        self.none("left", ("case", LEFT, name(0), LEFT), STAR)
        self.none("left", ("case", LEFT, name(0), name(7)), STAR)
        self.none("left", ("case", ("left", TWO, name(0)), name(1), name(1)), name(1), (TWO, TWO))


class Star(Case):
    def test_steps(self):
        self.step("star", name(0), STAR, (ONE,))
        self.step("star", ("case", name(0), name(0), STAR), STAR, (TWO,))
        self.step("star", ("never", ONE, name(0)), STAR, (NONE,))
        self.assertIs(is_step("star", STAR, STAR, ()), True)

    def test_near_misses(self):
        self.none("star", name(0), STAR, (TWO,))
        self.none("star", name(0), STAR, (both(ONE, ONE),))
        self.none("star", name(0), STAR, (way(NONE, NONE),))
        self.none("star", name(0), name(1), (ONE, ONE))
        self.none("star", name(0), STAR)
        self.none("star", ("first", STAR), STAR)
        self.none("pair", name(0), STAR, (ONE,))


class Pair(Case):
    def test_steps(self):
        for kind in (both(TWO, ONE), both(NONE, VAST), both(both(ONE, ONE), TWO)):
            self.step("pair", name(0), ("pair", ("first", name(0)), ("second", name(0))), (kind,))
        one = ("pair", LEFT, STAR)
        self.step("pair", one, ("pair", ("first", one), ("second", one)))

    def test_near_misses(self):
        names = (both(TWO, TWO), both(TWO, TWO), TWO)
        self.none("pair", name(0), ("pair", ("first", name(0)), ("second", name(1))), names)
        self.none("pair", name(0), ("pair", ("first", name(1)), ("second", name(0))), names)
        self.none("pair", name(1), ("pair", ("first", name(0)), ("second", name(0))), names)
        self.none("pair", name(0), ("pair", ("second", name(0)), ("first", name(0))), names)
        self.none("pair", name(0), ("pair", ("first", name(0)), ("first", name(0))), names)
        self.none("pair", name(2), ("pair", ("first", name(2)), ("second", name(2))), names)
        self.none("pair", name(3), ("pair", ("first", name(3)), ("second", name(3))), names)
        self.none("pair", name(0), name(0), names)
        self.none("way", name(0), ("pair", ("first", name(0)), ("second", name(0))), names)


class Way(Case):
    def test_steps(self):
        for kind in (way(TWO, ONE), way(NONE, VAST), way(TWO, NONE)):
            self.step("way", name(1), ("way", kind[1], ("give", name(2), name(0))), (ONE, kind))
        one = ("way", TWO, ("pair", name(0), name(1)))
        self.step("way", one, ("way", TWO, ("give", ("way", TWO, ("pair", name(0), name(2))), name(0))), (TWO,))

    def test_near_misses(self):
        names = (way(TWO, TWO), way(TWO, TWO), way(THREE, TWO))
        self.none("way", name(0), ("way", TWO, ("give", name(0), name(0))), names)
        self.none("way", name(0), ("way", TWO, ("give", name(2), name(0))), names)
        self.none("way", name(0), ("way", TWO, ("give", name(1), LEFT)), names)
        self.none("way", name(0), ("way", THREE, ("give", name(1), name(0))), names)
        self.none("way", name(2), ("way", TWO, ("give", name(3), name(0))), names)
        self.none("way", name(0), name(0), names)
        self.none("way", name(3), ("way", TWO, ("give", name(4), name(0))), names)
        self.none("pair", name(0), ("way", TWO, ("give", name(1), name(0))), names)


class Split(Case):
    names = (TWO, TWO)
    through = ("pair", name(0), name(2))
    one = ("pair", name(0), name(1))
    other = ("case", name(0), ("pair", ("left", ONE, name(0)), name(2)), ("pair", ("right", ONE, name(0)), name(2)))

    def test_steps(self):
        self.step("split", self.one, self.other, self.names, self.through)
        self.step("split", name(0), ("case", name(0), ("left", ONE, name(0)), ("right", TWO, name(0))),
                  (either(TWO, ONE),), name(0))
        self.step("split", LEFT, ("case", ("first", ("pair", RIGHT, STAR)), LEFT, LEFT), (), LEFT)
        self.step("split", ("case", name(0), name(0), STAR),
                  ("case", name(0), ("case", ("left", ONE, name(0)), name(0), STAR),
                   ("case", ("right", ONE, name(0)), name(0), STAR)), (TWO,), ("case", name(0), name(0), STAR))
        self.step("split", ("way", TWO, ("pair", name(1), name(0))),
                  ("case", name(0), ("way", TWO, ("pair", ("left", ONE, name(1)), name(0))),
                   ("way", TWO, ("pair", ("right", ONE, name(1)), name(0)))), (TWO,),
                  ("way", TWO, ("pair", name(1), name(0))))
        self.step("split", STAR, ("case", name(0), STAR, STAR), (either(NONE, NONE),), STAR)

    def test_some_of_its_places_alone(self):
        one = ("pair", name(0), name(0))
        for through, left, right in (
            (("pair", name(0), name(1)), ("pair", ("left", ONE, name(0)), name(1)),
             ("pair", ("right", ONE, name(0)), name(1))),
            (("pair", name(1), name(0)), ("pair", name(1), ("left", ONE, name(0))),
             ("pair", name(1), ("right", ONE, name(0)))),
            (("pair", name(1), name(1)), ("pair", name(1), name(1)), ("pair", name(1), name(1))),
        ):
            self.step("split", one, ("case", name(0), left, right), (TWO,), through)
            self.none("split", one, ("case", name(0), left, right), (TWO,), ("pair", name(0), name(0)))

    def test_the_c(self):
        self.none("split", self.one, self.other, self.names)
        self.none("split", self.one, self.other, self.names, name(0))
        self.none("split", self.one, self.other, self.names, ("pair", name(0), name(3)))
        self.none("split", self.one, self.other, self.names, ("pair", name(1), name(2)))
        self.none("split", self.one, self.other, self.names, ("pair", ("first", name(0)), name(2)))
        self.none("split", self.one, self.other, self.names, self.one)
        self.none("split", name(0), ("case", name(0), LEFT, RIGHT), (TWO,), name(5))

    def test_near_misses(self):
        case, asked, left, right = self.other
        for other in (
            (case, name(1), left, right), (case, asked, right, left), (case, asked, left, left),
            (case, asked, ("pair", LEFT, name(2)), right), (case, asked, left, ("pair", RIGHT, name(2))),
            (case, asked, ("pair", ("left", ONE, name(0)), name(1)), right),
            (case, asked, left, ("pair", ("right", ONE, name(0)), name(3))), self.one, left,
        ):
            self.none("split", self.one, other, self.names, self.through)
        self.none("split", ("pair", name(1), name(1)), self.other, self.names, self.through)
        self.none("split", self.one, self.other, (TWO,), self.through)
        self.none("split", self.one, self.other, (ONE, TWO), self.through)
        self.none("split", name(0), ("case", name(0), ("left", TWO, name(0)), ("right", ONE, name(0))),
                  (either(TWO, ONE),), name(0))
        for word in WORDS:
            if word != "split":
                self.none(word, self.one, self.other, self.names, self.through)


class Never(Case):
    def test_steps(self):
        self.step("never", RIGHT, ("never", TWO, name(0)), (NONE,))
        self.step("never", name(1), ("never", VAST, ("first", name(0))), (both(NONE, TWO), VAST))
        self.step("never", name(0), ("never", NONE, name(0)), (NONE,))
        self.assertIs(is_step("never", ("never", TWO, name(0)), ("never", TWO, name(1)), (NONE, NONE)), True)

    def test_near_misses(self):
        self.none("never", RIGHT, ("never", ONE, name(0)), (NONE,))
        self.none("never", RIGHT, ("never", THREE, name(0)), (NONE,))
        self.none("never", RIGHT, ("never", TWO, name(0)), (ONE,))
        self.none("never", RIGHT, ("never", TWO, name(0)), (both(NONE, NONE),))
        self.none("never", RIGHT, ("never", TWO, name(1)), (NONE,))
        self.none("never", RIGHT, LEFT, (NONE,))
        self.none("never", ("first", STAR), ("never", TWO, name(0)), (NONE,))
        self.none("star", RIGHT, ("never", TWO, name(0)), (NONE,))


class ManySteps(Case):
    NAMES = ((), (TWO,), (NONE,), (both(TWO, NONE), THREE), (way(TWO, TWO), TWO), (either(ONE, NONE), NONE))

    def test_steps_of_every_word(self):
        made = dict.fromkeys(WORDS, 0)
        for seed in range(120):
            maker = Total(seed)
            names = self.NAMES[seed % len(self.NAMES)]
            for word in WORDS:
                found = maker.step(word, maker.some_kind(names), names, 3)
                if found is not None:
                    one, other, through = found
                    made[word] += 1
                    self.assertIs(is_step(word, one, other, names, through), True)
                    self.assertIs(is_step(word, other, one, names, through), True)
                    self.assertEqual(kind_of(one, names), kind_of(other, names))
                    self.assertEqual(table(one, names), table(other, names))
        self.assertGreater(min(made.values()), 10)

    def test_one_part_exchanged(self):
        # Of programs with unlike tables there is no step; of others it is asked only that the tables are the same.
        refused = 0
        for seed in range(120):
            maker = Total(seed)
            names = self.NAMES[seed % len(self.NAMES)]
            word = WORDS[seed % 11]
            found = maker.step(word, maker.some_kind(names), names, 3)
            if found is None:
                continue
            one, other, through = found
            for turn in range(4):
                place = maker.chance.choice(places(other))
                changed = replaced_again(other, place, maker.any_program(2))
                answer = is_step(word, one, changed, names, through)
                kind = kind_again(changed, names)
                if changed == other:
                    self.assertIs(answer, True)
                elif kind is None or kind != kind_again(one, names):
                    refused += 1
                    self.assertIs(answer, False)
                elif answer:
                    self.assertEqual(table(one, names), table(changed, names))
        self.assertGreater(refused, 50)

    def test_another_word(self):
        for word in ("", "Let", "case", "name", "lets", "none"):
            self.none(word, ("let", LEFT, name(0)), LEFT)
        self.none("let", STAR, STAR)

    def test_programs_that_are_put_in_and_lifted(self):
        for seed in range(60):
            maker = Total(seed)
            names = (TWO, both(ONE, TWO), way(TWO, ONE))
            kind, inside = maker.some_kind(names), maker.some_kind(names)
            body = maker.of_kind(kind, (inside,) + names, 5)
            argument = maker.of_kind(inside, names, 4)
            self.step_only("let", ("let", argument, body), put_in(body, argument), names)
            self.step_only("let", ("let", lifted(argument, 2, 1), lifted(body, 2, 2)),
                           lifted(put_in(body, argument), 2, 1), names[:1] + (ONE, NONE) + names[1:])

    def step_only(self, word, one, other, names):
        self.assertIs(is_step(word, one, other, names), True)

    def test_very_deep_and_doubled(self):
        deep = chain(3000, lambda one: ("let", STAR, one), name(0))
        self.assertIs(is_step("let", ("let", STAR, deep), put_in(deep, STAR), ()), True)
        self.assertIs(is_step("first", ("first", ("pair", deep, STAR)), deep, ()), True)
        doubled = chain(50, lambda one: ("let", ("pair", name(0), name(0)), one), name(0))
        self.assertIs(is_step("let", ("let", name(0), doubled), doubled, (TWO,)), True)
        self.assertIs(is_step("let", ("let", STAR, doubled), doubled, (TWO,)), False)


if __name__ == "__main__":
    unittest.main()
