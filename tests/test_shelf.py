"""Nested tuples made part by part, and by number: also such as are written out too large to be walked."""

import unittest

from evenkinds.shelf import FEW, Shelf, are_alike, made_of_parts
from tests.samples import (
    FOUR, NONE, ONE, TWO, Maker, both, chain, each_soon, either, few, small_kinds, things_again, way,
)

KINDS = few(small_kinds(3), 9)


def twice(many, end=ONE):
    return chain(many, lambda one: both(one, one), end)


def summed(many, end=ONE):
    """Each built of the two ahead of it."""
    one, other = either(end, end), end
    for number in range(many):
        one, other = either(one, other), one
    return one


def sizes(kind):
    return made_of_parts(kind, lambda one: one[1:], lambda one, parts: 1 + sum(parts))


class MadeOfParts(unittest.TestCase):
    def test_in_order(self):
        for kind in (ONE, FOUR, both(way(ONE, TWO), NONE), chain(50, lambda one: either(TWO, one), ONE)):
            self.assertEqual(made_of_parts(kind, lambda one: one[1:], lambda one, parts: (one[0],) + tuple(parts)), kind)

    def test_as_large_as_they_are(self):
        for many in (0, 1, 5, 12, 13, 14, 40, 200):
            self.assertEqual(sizes(twice(many)), 2 ** (many + 1) - 1)
        one, other = 3, 1
        for number in range(80):
            self.assertEqual(sizes(summed(number)), one)
            one, other = one + other + 1, one

    def test_unlike_parts_of_the_same_reach(self):
        # Each has the same at both ends, and is unlike in the middle alone.
        def middle(number):
            return either(either(ONE, chain(number, lambda one: way(one, NONE), ONE)), either(NONE, ONE))

        whole = ONE
        for number in range(150):
            whole = both(middle(number), whole)
        self.assertGreater(sizes(whole), FEW)
        self.assertEqual(sizes(whole), 1 + sum(8 + 2 * number for number in range(150)))
        self.assertEqual(sizes(both(whole, whole)), 3 + 2 * sum(8 + 2 * number for number in range(150)))

    def test_far_deeper_than_python_compares(self):
        for number in (0, 1):
            deep = [chain(6000, lambda one: (either(one, end), either(end, one))[number], end) for end in (ONE, TWO)]
            self.assertEqual(sizes(both(deep[0], deep[0])), 1 + 2 * 12001)
            self.assertEqual(sizes(both(deep[0], chain(6000, lambda one: either(one, ONE), ONE))), 1 + 2 * 12001)
            self.assertEqual(sizes(both(deep[0], deep[1])), 1 + 12001 + 3 * 6001 + 6000)

    def test_many_that_are_unlike(self):
        maker = Maker(5)
        kinds = [maker.kind(6) for number in range(4096)]
        while len(kinds) > 1:
            kinds = [both(one, other) for one, other in zip(kinds[::2], kinds[1::2])]
        whole = kinds[0]
        self.assertGreater(sizes(whole), 3 * FEW)
        self.assertEqual(made_of_parts(whole, lambda one: one[1:], lambda one, parts: (one[0],) + tuple(parts)), whole)


class Numbers(unittest.TestCase):
    def test_the_same_for_the_same(self):
        shelf = Shelf()
        for kind in KINDS:
            for other in KINDS[::7]:
                self.assertEqual(shelf.laid(kind) == shelf.laid(other), kind == other)
                self.assertEqual(shelf.laid_kind(kind) == shelf.laid(other), kind == other)
            self.assertEqual(shelf.tuple_at(shelf.laid(kind)), kind)

    def test_built_of_numbers(self):
        shelf = Shelf()
        for one in KINDS[::5]:
            for other in KINDS[::11]:
                number = shelf.built("way", shelf.laid(one), shelf.laid_kind(other))
                self.assertEqual(shelf.tuple_at(number), way(one, other))
                self.assertEqual(number, shelf.laid(way(one, other)))
                self.assertEqual(shelf.within(number), (shelf.laid(one), shelf.laid(other)))
                self.assertTrue(all(part < number for part in shelf.within(number)))
                self.assertEqual(shelf.word_at(number), "way")

    def test_put_by(self):
        shelf = Shelf()
        waiting = [shelf.put_by(kind) for kind in (TWO, FOUR, TWO)]
        self.assertEqual(len(set(waiting)), 3)
        self.assertTrue(all(number < 0 for number in waiting))
        for number, kind in zip(waiting * 2, (TWO, FOUR, TWO) * 2):
            self.assertEqual(shelf.taken_up(number), shelf.laid(kind))
        self.assertEqual(shelf.taken_up(shelf.laid(FOUR)), shelf.laid(FOUR))

    def test_what_doubles(self):
        def asked(many):
            shelf = Shelf()
            for whole in (twice, summed):
                self.assertEqual(shelf.laid(whole(many)), shelf.laid_kind(whole(many)))
                self.assertNotEqual(shelf.laid(whole(many)), shelf.laid(whole(many, TWO)))
                self.assertNotEqual(shelf.laid(whole(many)), shelf.laid(whole(many - 1)))

        each_soon(self, asked)

    def test_all_laid(self):
        shelf = Shelf()
        shelf.laid(FOUR)
        self.assertEqual(shelf.all_laid(), ((("one",), ()), (("either",), (0, 0)), (("both",), (1, 1))))


class Alike(unittest.TestCase):
    def test_small_ones(self):
        for kind in KINDS:
            for other in KINDS[::5]:
                self.assertEqual(are_alike(kind, other), kind == other)
        for thing in things_again(way(TWO, FOUR)):
            for other in things_again(way(TWO, FOUR)):
                self.assertEqual(are_alike(thing, other), thing == other)
        self.assertFalse(are_alike(("name", 1), ("name", 2)))
        self.assertFalse(are_alike(("w", ()), ("w", ((),))))

    def test_very_deep(self):
        for many in (3000, 30000):
            one = chain(many, lambda one: ("first", one), ("name", 0))
            self.assertTrue(are_alike(one, chain(many, lambda one: ("first", one), ("name", 0))))
            self.assertFalse(are_alike(one, chain(many, lambda one: ("first", one), ("name", 1))))
            self.assertFalse(are_alike(one, chain(many - 1, lambda one: ("first", one), ("name", 0))))

    def test_what_doubles(self):
        def asked(many):
            for whole in (twice, summed):
                self.assertTrue(are_alike(whole(many), whole(many)))
                self.assertFalse(are_alike(whole(many), whole(many, TWO)))
                self.assertFalse(are_alike(both(whole(many), ONE), both(whole(many), TWO)))

        each_soon(self, asked)


if __name__ == "__main__":
    unittest.main()
