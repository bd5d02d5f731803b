"""[24] and what [2] says of it: for each word something that all others keep, and two programs unlike in it."""

import unittest

from evenkinds.book import WORDS, is_step
from evenkinds.kept import kept, unlike
from evenkinds.kinds import count
from evenkinds.odd import odd_kind
from evenkinds.programs import at_place, kind_of, replaced
from evenkinds.tables import table
from evenkinds.walked import names_at, walked
from tests.samples import (
    FOUR, NONE, ONE, STAR, THREE, TWO, Total, both, chain, either, few, name, parts_again, places, size,
    small_kinds, table_again, way,
)

SMALL = few(small_kinds(3), 4)
LEFT, RIGHT = ("left", ONE, STAR), ("right", ONE, STAR)
NAMES = ((), (TWO,), (NONE,), (both(TWO, NONE), ONE), (way(ONE, TWO), TWO), (either(ONE, NONE), NONE), (THREE, TWO),
         (both(ONE, TWO),))


def counted(word, kind):
    """How many things the kind has, counted as [24] counts them for the word."""
    if kind[0] in ("none", "one"):
        return {("never", "none"): 1, ("star", "one"): 2}.get((word, kind[0]), count(kind))
    first, second = counted(word, kind[1]), counted(word, kind[2])
    if kind[0] == "way" and second > 1 and first > 10:
        return 10 ** 6
    many = {"either": first + second, "both": first * second, "way": second ** min(first, 20)}[kind[0]]
    return many * 2 if (word, kind[0]) in (("pair", "both"), ("way", "way"), ("split", "either")) else many


def kinds_in(program, names):
    """The kinds that stand in a program, those of its parts and those of names."""
    kinds = list(names)
    for place in places(program):
        part, there = at_place(program, place), names_at(program, place, names)
        kinds.append(kind_of(part, there))
        if part[0] in ("left", "right", "way", "never"):
            kinds.append(part[1])
    return kinds


def is_bounded(word, program, names, most=300):
    many = 1
    for kind in names:
        many *= counted(word, kind)
    return many <= most and all(counted(word, kind) <= most for kind in kinds_in(program, names))


class Unlike(unittest.TestCase):
    def test_each_word(self):
        for word in WORDS:
            told = unlike(word)
            self.assertEqual((type(told), len(told)), (tuple, 4))
            one, other, names, through = told
            self.assertEqual(through is None, word != "split")
            self.assertTrue(is_step(word, one, other, names, through))
            self.assertEqual(walked(one, names, [((), word, one, other, through)]), other)
            self.assertEqual(kind_of(one, names), kind_of(other, names))
            self.assertEqual(table_again(one, names), table_again(other, names))
            for another in WORDS:
                same = kept(another, one, names) == kept(another, other, names)
                self.assertEqual(same, another != word, (word, another))

    def test_they_are_small(self):
        for word in WORDS:
            one, other, names, through = unlike(word)
            self.assertLessEqual(len(names), 1)
            for program in (one, other):
                self.assertLessEqual(size(program), 10)
                self.assertTrue(is_bounded(word, program, names, 10))
                for another in WORDS:
                    self.assertTrue(is_bounded(another, program, names))

    def test_told_again(self):
        for word in WORDS:
            self.assertEqual(unlike(word), unlike(word))


class Kept(unittest.TestCase):
    def keeps(self, word, one, other, names, why):
        first, second = kept(word, one, names), kept(word, other, names)
        self.assertIs(type(first), tuple)
        self.assertEqual(first, second, why)

    def test_steps_of_the_ten_other_words_at_the_whole(self):
        many = dict.fromkeys([(word, step) for word in WORDS for step in WORDS if word != step], 0)
        for seed in range(330):
            maker = Total(seed, SMALL[seed % 9::9] + [TWO, TWO, ONE, both(ONE, TWO), way(ONE, TWO)])
            names = NAMES[seed % len(NAMES)]
            step = WORDS[seed % 11]
            kind = maker.some_kind(names)
            if step in ("star", "pair", "way"):
                kind = maker.chance.choice({"star": (ONE,), "pair": (both(TWO, ONE), both(ONE, TWO)),
                                            "way": (way(TWO, TWO), way(ONE, THREE))}[step])
            found = maker.step(step, kind, names, 3)
            if found is None:
                continue
            for word in WORDS:
                if word != step and all(is_bounded(word, one, names) for one in found[:2]):
                    self.keeps(word, found[0], found[1], names, (word, step))
                    many[word, step] += 1
        self.assertGreater(min(many.values()), 3)

    def test_at_deep_places(self):
        deepest, many = 0, 0
        for seed in range(440):
            maker = Total(seed, SMALL[seed % 9::9] + [TWO, TWO, ONE])
            names = NAMES[seed % len(NAMES)]
            step = WORDS[seed % 11]
            program = maker.of_kind(maker.some_kind(names), names, 4)
            place = maker.chance.choice(places(program))
            there = names_at(program, place, names)
            found = maker.step(step, kind_of(at_place(program, place), there), there, 2)
            if found is None:
                continue
            pair = [replaced(program, place, one) for one in found[:2]]
            for word in WORDS:
                if word != step and all(is_bounded(word, one, names) for one in pair):
                    self.keeps(word, pair[0], pair[1], names, (word, step))
                    deepest = max(deepest, len(place))
                    many += 1
        self.assertGreater(deepest, 3)
        self.assertGreater(many, 1500)

    def around(self):
        """Forms to stand around a program of two, each of two in turn."""
        yield lambda one: ("first", ("pair", one, STAR))
        yield lambda one: ("second", ("pair", STAR, one))
        yield lambda one: ("case", one, LEFT, RIGHT)
        yield lambda one: ("case", ("right", ONE, one), RIGHT, name(0))
        yield lambda one: ("give", ("way", TWO, name(0)), one)
        yield lambda one: ("give", ("way", ONE, one), STAR)
        yield lambda one: ("let", one, name(0))
        yield lambda one: ("case", LEFT, one, RIGHT)

    def test_unlike_ones_of_other_words_within_every_form(self):
        for step in ("let", "give", "first", "second", "left", "right"):
            one, other, names, through = unlike(step)
            for number, form in enumerate(self.around()):
                for deep in (1, 2):
                    pair = [chain(deep, form, program) for program in (one, other)]
                    for word in WORDS:
                        if word != step:
                            self.keeps(word, pair[0], pair[1], names, (word, step, number))

    def test_steps_by_hand(self):
        two = (TWO, TWO)
        case = ("case", name(0), ("pair", ("left", ONE, name(0)), name(2)), ("pair", ("right", ONE, name(0)), name(2)))
        for word in WORDS:
            if word != "split":
                self.keeps(word, ("pair", name(0), name(1)), case, two, word)
            if word != "pair":
                self.keeps(word, name(0), ("pair", ("first", name(0)), ("second", name(0))), (FOUR,), word)
                self.keeps(word, name(0), ("pair", ("first", name(0)), ("second", name(0))), (both(NONE, TWO),), word)
            if word != "way":
                self.keeps(word, name(0), ("way", TWO, ("give", name(1), name(0))), (way(TWO, TWO),), word)
                self.keeps(word, name(0), ("way", NONE, ("give", name(1), name(0))), (way(NONE, TWO),), word)
                self.keeps(word, name(0), ("way", TWO, ("give", name(1), name(0))), (way(TWO, NONE),), word)
            if word != "star":
                self.keeps(word, name(0), STAR, (ONE, NONE), word)
                self.keeps(word, ("case", name(0), name(0), STAR), STAR, (TWO,), word)
            if word != "never":
                self.keeps(word, LEFT, ("never", TWO, name(1)), (TWO, NONE), word)
                self.keeps(word, RIGHT, ("never", TWO, ("first", name(0))), (both(NONE, ONE),), word)
                self.keeps(word, RIGHT, ("never", TWO, ("give", name(0), STAR)), (way(ONE, NONE),), word)

    def test_it_tells_unlike_tables_apart_where_nothing_is_lost(self):
        for word in ("star", "pair", "way", "split", "never", "let"):
            self.assertNotEqual(kept(word, name(0), (TWO, TWO)), kept(word, name(1), (TWO, TWO)))

    def test_names_at_the_bounds(self):
        for word, kind in (("let", way(THREE, FOUR)), ("give", both(FOUR, FOUR)), ("first", way(FOUR, FOUR)),
                           ("star", both(either(TWO, TWO), either(TWO, TWO))), ("pair", both(FOUR, THREE)),
                           ("split", both(both(THREE, TWO), TWO)), ("way", way(FOUR, THREE)), ("never", way(FOUR, FOUR)),
                           ("left", both(FOUR, way(TWO, FOUR))), ("right", either(way(FOUR, FOUR), FOUR))):
            if counted(word, kind) <= 300:
                one, other = name(0), ("let", name(0), name(0))
                if word != "let":
                    self.keeps(word, one, other, (kind,), word)
                self.assertEqual(len(kept(word, one, (kind,))[0]), count(odd_kind(word, kind)))

    def test_kinds_that_double(self):
        program = chain(40, lambda one: ("let", ("pair", name(0), name(0)), one), RIGHT)
        for word in WORDS:
            if word not in ("star", "pair"):
                self.assertEqual(len(kept(word, ("let", STAR, program), (TWO,))[0]), count(odd_kind(word, TWO)))

    def test_programs_of_many_parts(self):
        program = chain(40, lambda one: ("case", ("let", one, name(0)), RIGHT, ("left", ONE, name(0))), name(0))
        other = chain(40, lambda one: ("case", one, RIGHT, ("left", ONE, name(0))), name(0))
        for word in WORDS:
            if word != "let":
                self.keeps(word, program, other, (TWO,), word)
        self.assertEqual(len(parts_again(program)), 3)
        self.assertEqual(table(program, (TWO,)), table(other, (TWO,)))


if __name__ == "__main__":
    unittest.main()
