"""Programs of few parts whose kinds, things and ends are, written out, too large to be walked: all have their answers.

[3] bounds kinds by their things, and lets those of programs be nested deeper than 12; [5] lets programs be 60 deep, and
those that are told be as large as they are, and be handed on.
"""

import unittest

from evenkinds.around import surrounding
from evenkinds.between import between
from evenkinds.book import WORDS, is_step
from evenkinds.errors import NoKind, NoStep
from evenkinds.kept import kept
from evenkinds.kinds import count, gift, things
from evenkinds.leader import lead
from evenkinds.looks import looked, part
from evenkinds.names import lifted, put_in
from evenkinds.plain import plain_table, plain_thing
from evenkinds.programs import at_place, kind_of, replaced
from evenkinds.reckoning import steps_of
from evenkinds.running import going_on, run
from evenkinds.shelf import are_alike
from evenkinds.tables import rows, table
from evenkinds.walked import names_at, reverse, walked
from evenkinds.worlds import told
from tests.samples import FOUR, NONE, ONE, STAR, TWO, both, chain, doubled, each_soon, either, name, way

L, R = ("l", ()), ("r", ())
LEFT, RIGHT = ("left", ONE, STAR), ("right", ONE, STAR)


def summed(last, many, base=STAR):
    """Lets that each pair the last two names."""
    return ("let", base, ("let", base, chain(many, lambda one: ("let", ("pair", name(0), name(1)), one), last)))


def crossed(last, many):
    """Two rows of lets, each pairing the last of both: their kinds are the same, but built apart."""
    def step(one):
        return ("let", ("pair", name(0), name(1)), ("let", ("pair", name(2), name(1)), one))

    return ("let", STAR, ("let", STAR, chain(many // 2, step, last)))


class Walking(unittest.TestCase):
    """[12], [13]"""

    ONE_CASE = ("case", LEFT, ("first", name(1)), name(2))

    def row(self, many, word, one, other, through=None):
        return [((1,) * (many + 1), word, one, other, through)]

    def test_names_at_a_place(self):
        def asked(many):
            names = names_at(doubled(self.ONE_CASE, many), (1,) * (many + 1), (TWO,))
            self.assertEqual((len(names), names[-2:]), (many + 2, (ONE, TWO)))
            for number in range(many):
                kind = names[number]
                for deep in range(many - number):
                    self.assertEqual(kind[0], "both")
                    kind = kind[1 + deep % 2]
                self.assertEqual(kind, ONE)

        each_soon(self, asked)

    def test_names_at_a_place_behind_what_must_be_compared(self):
        def asked(many):
            case = ("case", LEFT, ("first", name(1)), name(2))
            program = doubled(("let", case, ("way", TWO, ("case", name(0), STAR, STAR))), many)
            names = names_at(program, (1,) * (many + 2) + (0, 1), ())
            self.assertEqual(names[:2], (ONE, TWO))
            self.assertEqual(len(names), many + 4)
            unlike = doubled(("let", ("case", LEFT, name(1), name(2)), STAR), many)
            with self.assertRaises(NoKind):
                names_at(unlike, (1,) * (many + 2), ())

        each_soon(self, asked)

    def test_a_step_over_the_names_at_a_place(self):
        def asked(many):
            names = names_at(doubled(self.ONE_CASE, many), (1,) * (many + 1), ())
            self.assertTrue(is_step("left", self.ONE_CASE, ("first", name(0)), names))
            self.assertFalse(is_step("left", self.ONE_CASE, name(0), names))
            self.assertEqual(kind_of(self.ONE_CASE, names)[0], "both")
            with self.assertRaises(NoKind):
                kind_of(("case", LEFT, name(1), name(2)), names)

        each_soon(self, asked)

    def test_rows_are_walked(self):
        def asked(many):
            case, other = self.ONE_CASE, ("first", name(0))
            row = self.row(many, "left", case, other)
            self.assertTrue(walked(doubled(case, many), (), row) == doubled(other, many))
            self.assertTrue(walked(doubled(other, many), (), reverse(row)) == doubled(case, many))
            for wrong in (name(0), ("second", name(0)), ("first", name(1)), STAR):
                with self.assertRaises(NoStep) as caught:
                    walked(doubled(case, many), (), row + reverse(row) + self.row(many, "left", case, wrong))
                self.assertEqual(caught.exception.at, 2)

        each_soon(self, asked)

    def test_kinds_that_are_built_apart(self):
        def asked(many):
            case = ("case", LEFT, name(1), name(2))
            place = (1,) * (2 + many // 2 * 2)
            row = [(place, "left", case, name(0), None)]
            self.assertTrue(walked(crossed(case, many), (), row) == crossed(name(0), many))
            with self.assertRaises(NoStep):
                walked(crossed(("case", LEFT, name(1), name(3)), many), (), row)

        each_soon(self, asked, (4, 12, 16, 20, 24, 28, 40, 56))

    def test_each_form_that_names_a_kind(self):
        def asked(many):
            names = names_at(doubled(STAR, many), (1,) * (many + 1), (NONE,))
            kind = names[0]
            sides = ("case", ("left", ONE, name(0)), ("left", ONE, name(0)), ("right", kind, name(0)))
            never = ("never", kind, name(many + 1))
            for word, one, other, through in (
                ("split", ("left", ONE, name(0)), sides, name(0)), ("never", name(0), never, None),
                ("pair", name(0), ("pair", ("first", name(0)), ("second", name(0))), None),
                ("way", ("way", kind, name(0)), ("way", kind, ("give", ("way", kind, name(0)), name(0))), None),
                ("give", ("give", ("way", kind, name(0)), name(0)), name(0), None),
            ):
                self.assertTrue(is_step(word, one, other, names, through), word)
                row = self.row(many, word, one, other, through)
                self.assertEqual(at_place(walked(doubled(one, many), (NONE,), row), row[0][0])[0], other[0])
            self.assertFalse(is_step("never", name(1), never, names))
            self.assertFalse(is_step("split", ("left", ONE, name(1)), sides, names, name(0)))

        each_soon(self, asked)


class Kinds(unittest.TestCase):
    """[3], [4], [8]"""

    def test_how_many_things(self):
        def asked(many):
            for form in (doubled, summed, crossed):
                self.assertEqual(count(kind_of(form(name(0), many), ())), 1)
            kind = kind_of(doubled(name(0), many, name(0)), (NONE,))
            self.assertEqual((count(kind), things(kind), count(way(kind, kind))), (0, [], 1))
            self.assertEqual(count(either(kind_of(doubled(name(0), many), ()), TWO)), 3)

        each_soon(self, asked)

    def test_things(self):
        def asked(many):
            kind = kind_of(doubled(name(0), many), ())
            for number, thing in enumerate(things(either(kind, kind))):
                self.assertEqual(thing[0], "lr"[number])
                thing = thing[1]
                for deep in range(many):
                    self.assertEqual((thing[0], len(thing)), ("p", 3))
                    thing = thing[1 + deep % 2]
                self.assertEqual(thing, ())
            sides = things(either(kind, kind))
            self.assertEqual(gift(way(either(kind, kind), TWO), ("w", (L, R)), things(either(kind, kind))[1]), R)
            self.assertEqual(len(sides), 2)

        each_soon(self, asked)

    def test_names_of_such_kinds(self):
        def asked(many):
            kind, other = kind_of(doubled(name(0), many), ()), kind_of(summed(name(0), many), ())
            for one in (kind, other):
                names = (one, both(one, TWO), one)
                self.assertEqual(kind_of(("case", LEFT, name(1), ("first", name(2))), names)[0], "both")
                self.assertEqual(len(rows(names)), 2)
                self.assertEqual(table(("second", name(1)), names), [L, R])
                self.assertEqual(told(("second", name(1)), rows(names)[1], names), R)
            with self.assertRaises(NoKind):
                kind_of(("case", LEFT, name(1), ("first", name(1))), (kind,))

        each_soon(self, asked)


class Running(unittest.TestCase):
    """[15], [16], and that it goes by steps of the book."""

    def goes(self, program):
        here, row = program, []
        step = going_on(here)
        while step is not None:
            row.append(step)
            here = replaced(here, step[0], step[3])
            step = going_on(here)
        return here, row

    def test_its_steps_are_walked(self):
        def asked(many):
            program = doubled(("case", ("left", ONE, name(0)), STAR, STAR), many)
            here, row = self.goes(program)
            self.assertEqual((here, len(row)), (STAR, many + 2))
            self.assertEqual(walked(program, (), row), STAR)
            self.assertTrue(walked(STAR, (), reverse(row)) == program)
            self.assertEqual((run(program), steps_of(program)), ((STAR, many + 2), many + 2))

        each_soon(self, asked)

    def test_what_it_comes_to(self):
        def asked(many):
            for form, names in ((doubled, ()), (summed, ()), (doubled, (TWO,))):
                last = ("pair", STAR, ("second", ("pair", name(0), STAR)))
                program = form(last, many) if names == () else form(last, many, name(0))
                end = run(program)[0]
                self.assertEqual(kind_of(end, names), both(ONE, ONE))
                self.assertEqual(table(end, names), [("p", (), ())] * len(rows(names)))
                self.assertTrue(is_step("second", end[2], STAR, names))
                self.assertTrue(is_step("let", ("let", end, name(0)), end, names))
                self.assertEqual(kind_of(lifted(end, 1, 0), (NONE,) + names), both(ONE, ONE))
                self.assertEqual(kind_of(put_in(end, LEFT), names[1:]), both(ONE, ONE))
                self.assertEqual(kept("let", end, names), kept("let", ("first", ("pair", end, STAR)), names))
                self.assertEqual(run(("second", end))[0] if names == () else STAR, STAR)

        each_soon(self, asked)

    def test_under_further_names(self):
        def asked(many):
            last = ("pair", ("way", TWO, name(1)), ("way", TWO, name(1)))
            end = run(doubled(last, many, name(0)))[0]
            self.assertEqual(kind_of(end, (TWO,))[0], "both")
            self.assertEqual(len(table(end, (TWO,))), 2)

        each_soon(self, asked)

    def test_put_in_again_and_again(self):
        def asked(many):
            program = chain(many, lambda one: put_in(("pair", name(0), name(0)), one), name(0))
            self.assertEqual(at_place(program, (0, 1) * (many // 2)), at_place(name(0), ()))
            self.assertEqual(kind_of(program, (TWO,))[0], "both")
            self.assertEqual(kind_of(("let", program, LEFT), (TWO,)), TWO)
            other = put_in(program, RIGHT)
            self.assertEqual(at_place(other, (0, 1) * (many // 2)), RIGHT)
            self.assertTrue(is_step("let", ("let", RIGHT, program), other, ()))
            self.assertFalse(is_step("let", ("let", LEFT, program), other, ()))

        each_soon(self, asked, (4, 12, 16, 20, 22, 24, 28, 40, 58))


class Plain(unittest.TestCase):
    """[10], [17], [18], [21], [22]"""

    def test_plain_programs(self):
        def asked(many):
            for form in (doubled, summed):
                program = form(name(0), many)
                kind = kind_of(program, ())
                for plain in (plain_thing(kind, told(program, (), ())), plain_table((), kind, table(program, ()))):
                    for number in range(many):
                        self.assertEqual(plain[0], "pair")
                        plain = plain[1]
                    self.assertEqual(plain, STAR)

        each_soon(self, asked)

    def test_things_part(self):
        def asked(many):
            program = doubled(name(0), many, name(0))
            kind = kind_of(program, (TWO,))
            left, right = told(program, (L,), (TWO,)), told(program, (R,), (TWO,))
            self.assertEqual(part(kind, left, right), [("first",)] * many)
            self.assertIsNone(part(kind, left, told(program, (L,), (TWO,))))
            self.assertEqual(looked(kind, right, [("second",)] * many), (TWO, R))
            self.assertEqual(part(both(kind, TWO), ("p", left, L), ("p", told(program, (L,), (TWO,)), R)), [("second",)])
            found = surrounding(("pair", program, name(0)), ("pair", program, LEFT), (TWO,))
            self.assertEqual(found, ((R,), [("second",)]))

        each_soon(self, asked)

    def test_ways_within_ways(self):
        def asked(many):
            for kind in (TWO, FOUR):
                for last, end in ((STAR, ()), (("way", TWO, name(0)), ("w", (L, R)))):
                    program = chain(many, lambda one: ("way", kind, one), last)
                    thing = told(program, (), ())
                    for number in range(many):
                        self.assertEqual((thing[0], len(thing[1])), ("w", count(kind)))
                        thing = thing[1][number % 2]
                    self.assertEqual(thing, end)
                    self.assertEqual(len(table(("let", program, STAR), ())), 1)

        each_soon(self, asked)

    def test_ways_of_one_thing_that_speak_of_all_names(self):
        def asked(many):
            for kind in (TWO, FOUR, way(TWO, TWO)):
                last = chain(many - 1, lambda one: ("first", ("pair", one, name(0))), STAR)
                for number in range(many):
                    last = ("way", kind, ("let", name(0), last) if number % 2 else last)
                thing = told(last, (), ()) if many < 30 else told(("first", ("pair", last, STAR)), (), ())
                for number in range(many):
                    self.assertEqual((thing[0], len(thing[1])), ("w", count(kind)))
                    thing = thing[1][number % 2]
                self.assertEqual(thing, ())

        each_soon(self, asked, (3, 4, 8, 12, 16, 20, 24, 28))

    def test_one_thing_of_each_form(self):
        forms = (
            (("pair", STAR, STAR), ("p", (), ())), (("left", NONE, STAR), ("l", ())), (("right", NONE, STAR), ("r", ())),
            (("way", NONE, ("never", FOUR, name(0))), ("w", ())), (("left", both(NONE, TWO), STAR), ("l", ())),
            (("way", both(TWO, NONE), STAR), ("w", ())),
        )

        def asked(many):
            for form, end in forms:
                # So that each speaks of the name ahead of it.
                program = ("second", ("pair", name(0), form if form[0] != "way" else lifted(form, 1, 0)))
                program = chain(many, lambda one: ("way", TWO, ("second", ("pair", name(0), one))), program)
                thing = told(("way", TWO, program), (), ())
                for number in range(many + 1):
                    self.assertEqual((thing[0], len(thing[1])), ("w", 2))
                    thing = thing[1][number % 2]
                self.assertEqual(thing, end)

        each_soon(self, asked, (2, 4, 8, 12, 16, 20, 24))

    def test_names_that_ask_nothing(self):
        def asked(many):
            for one in (TWO, FOUR, either(either(FOUR, FOUR), either(FOUR, FOUR))):
                kind = chain(many, lambda kind: way(one, kind), ONE)
                self.assertEqual(plain_table((kind,), TWO, [R]), RIGHT)
                self.assertEqual(plain_table((TWO, kind), ONE, [(), ()]), ("case", name(0), STAR, STAR))
                self.assertEqual(plain_table((both(kind, TWO),), ONE, [(), ()]), ("case", ("second", name(0)), STAR, STAR))
                self.assertEqual(table(name(0), (TWO, kind)), [L, R])

        each_soon(self, asked, (1, 2, 3, 5, 8, 11))


class Led(unittest.TestCase):
    """[20]: kinds of at most 4 things, programs of at most 16 parts."""

    def leads(self, program, names, most):
        row = lead(program, names)
        self.assertLessEqual(len(row), most)
        plain = plain_table(names, kind_of(program, names), table(program, names))
        self.assertTrue(are_alike(walked(program, names, row), plain))
        self.assertTrue(are_alike(walked(plain, names, reverse(row)), program))
        self.assertEqual(lead(plain, names) if names == () else [], [])
        self.assertTrue(are_alike(walked(program, names, between(program, plain, names)), plain))

    def test_ways_within_ways(self):
        def asked(many):
            for kind, most in ((TWO, 1), (ONE, 0), (NONE, 1), (both(ONE, TWO), 1)):
                self.leads(chain(many, lambda one: ("way", kind, one), STAR), (), most * many)

        each_soon(self, asked, (1, 2, 4, 6, 8, 15))

    def test_ways_over_four_things(self):
        def asked(many):
            for kind in (either(ONE, either(ONE, TWO)), FOUR, way(TWO, TWO)):
                self.leads(chain(many, lambda one: ("way", kind, one), STAR), (), 5 * many)

        each_soon(self, asked, (1, 2, 4, 6, 7))

    def test_ways_to_an_either_of_one_thing(self):
        left = ("left", NONE, STAR)

        def asked(many):
            for kind in (TWO, either(ONE, either(ONE, TWO))):
                for last in (left, ("case", name(0), left, left), ("case", name(many - 1), left, left),
                             ("case", name(0), ("case", ("right", NONE, STAR), ("never", either(ONE, NONE), name(0)), left), left),
                             ("first", ("pair", ("right", both(NONE, TWO), STAR), name(0)))):
                    self.leads(chain(many, lambda one: ("way", kind, one), last), (), 3 * many + 9)

        each_soon(self, asked, (1, 2, 4, 6, 7))

    def test_names_of_ways_within_ways(self):
        def asked(many):
            kind = chain(many, lambda one: way(TWO, one), ONE)
            self.leads(name(0), (kind,), 4 * many + 1)
            self.leads(name(0), (TWO, kind), 10)
            self.leads(("pair", name(0), name(1)), (TWO, kind), 4 * many + 20)
            self.leads(("give", name(0), LEFT), (kind,), 4 * many + 20)
            self.leads(("case", name(0), name(2), ("second", ("pair", name(0), name(2)))), (TWO, kind), 4 * many + 20)

        each_soon(self, asked, (1, 2, 4, 6, 8, 11))


class Kept(unittest.TestCase):
    """[24]"""

    LAST = ("left", ONE, name(0))

    def keeps(self, word, program, names=()):
        one = ("give", ("way", ONE, lifted(program, 1, 0)), STAR)
        if word == "give":
            one = ("let", STAR, lifted(program, 1, 0))
        told = kept(word, program, names)
        self.assertIs(type(told), tuple)
        self.assertEqual(told, kept(word, one, names), word)
        self.assertEqual(told, kept(word, ("second", ("pair", STAR, program)), names) if word != "second" else told)

    def words(self):
        # For these two a pair, and a one, has more things the deeper it is.
        return [word for word in WORDS if word not in ("star", "pair")]

    def test_forms_that_lose_something(self):
        left, right = self.LAST, ("right", ONE, name(0))
        forms = (
            ("case", left, STAR, STAR), ("case", right, STAR, STAR), ("second", ("pair", left, STAR)),
            ("first", ("pair", STAR, left)), ("let", left, STAR), ("give", ("way", ONE, left), STAR), left, right,
            ("pair", left, right), ("first", ("pair", left, left)), ("case", left, left, ("left", ONE, name(1))),
            ("give", ("way", TWO, left), LEFT), ("way", TWO, left), ("let", left, name(0)),
        )

        def asked(many):
            for word in self.words():
                for form in forms:
                    self.keeps(word, doubled(form, many))

        each_soon(self, asked, (4, 12, 16, 20, 22, 24, 28, 40, 54))

    def test_their_own_kinds(self):
        def asked(many):
            for word in self.words():
                for form in (doubled, summed, crossed):
                    self.keeps(word, form(name(0), many))

        each_soon(self, asked, (4, 12, 16, 20, 22, 24, 28, 40, 54))

    def test_over_names(self):
        def asked(many):
            for word in WORDS:
                self.keeps(word, doubled(("left", TWO, name(0)), many, name(0)), (NONE,))
            for word in self.words():
                self.keeps(word, doubled(("case", self.LAST, ("pair", name(0), name(many + 2)), ("never", both(
                    kind_of(doubled(name(0), many), ()), TWO), name(many + 3))), many), (TWO, NONE))

        each_soon(self, asked, (4, 12, 16, 20, 22, 24, 28, 40, 54))

    def test_steps_of_its_own_word(self):
        def asked(many):
            for word in ("left", "right", "first", "second", "let"):
                one = {
                    "left": ("case", ("left", ONE, RIGHT), name(0), RIGHT),
                    "right": ("case", ("right", ONE, RIGHT), RIGHT, name(0)),
                    "first": ("first", ("pair", RIGHT, name(0))), "second": ("second", ("pair", name(0), RIGHT)),
                    "let": ("let", RIGHT, name(0)),
                }[word]
                self.assertNotEqual(kept(word, doubled(one, many), ()), kept(word, doubled(RIGHT, many), ()), word)

        each_soon(self, asked, (4, 12, 16, 20, 22, 24, 28, 40, 54))


if __name__ == "__main__":
    unittest.main()
