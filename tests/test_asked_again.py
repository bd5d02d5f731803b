"""[1] of every function: nothing handed in is changed, and asked again with the same, it tells the same."""

import copy
import unittest

from evenkinds.around import surrounded, surrounding
from evenkinds.between import between
from evenkinds.book import WORDS, is_step
from evenkinds.desk import answered
from evenkinds.errors import NoKind, NoStep, NoText
from evenkinds.kept import kept, unlike
from evenkinds.kinds import count, gift, things
from evenkinds.leader import lead
from evenkinds.looks import looked, part
from evenkinds.names import lifted, put_in
from evenkinds.plain import plain_table, plain_thing
from evenkinds.programs import at_place, inner, kind_of, replaced
from evenkinds.reading import read_kind, read_program, read_thing
from evenkinds.reckoning import steps_of
from evenkinds.running import going_on, run
from evenkinds.tables import rows, table
from evenkinds.walked import names_at, reverse, walked
from evenkinds.worlds import told
from evenkinds.writing import show_kind, show_program, show_thing
from tests.samples import (
    FOUR, NONE, ONE, ONE_OF_EACH, STAR, THREE, TWO, Maker, Total, both, name, places, small_kinds, way,
)

NAMES = ((), (TWO,), (THREE, TWO), (NONE, TWO), (way(TWO, TWO),))


def whole(answer):
    """Told are numbers, texts, tuples and lists alone (and None in a step), and no number is a truth."""
    if type(answer) in (tuple, list):
        return all(whole(one) for one in answer)
    return answer is None or type(answer) in (int, str)


class AskedAgain(unittest.TestCase):
    def twice(self, asked, *handed):
        before = copy.deepcopy(handed)
        answer = asked(*handed)
        kept = copy.deepcopy(answer)
        self.assertEqual(handed, before)
        self.assertTrue(whole(answer))
        if isinstance(answer, list):
            answer.append("changed by the asker")
            answer[0] = "changed by the asker"
            self.assertEqual(handed, before)
        again = asked(*handed)
        self.assertEqual(again, kept)
        self.assertEqual(asked(*copy.deepcopy(handed)), kept)
        self.assertEqual(handed, before)

    def test_kinds(self):
        for kind in small_kinds(2) + [FOUR, way(TWO, FOUR), both(FOUR, TWO)]:
            self.twice(count, kind)
            self.twice(things, kind)

    def test_gift(self):
        for thing in things(way(TWO, FOUR)):
            for one in things(TWO):
                self.twice(gift, way(TWO, FOUR), thing, one)

    def test_programs(self):
        for program in ONE_OF_EACH + tuple(Maker(seed).any_program(5) for seed in range(30)):
            self.twice(inner, program)
            for place in places(program) + [(3,), (-1,), (0, 0, 0, 0, 0, 0, 0)]:
                self.twice(at_place, program, place)
            for place in places(program):
                self.twice(replaced, program, place, ("left", ONE, name(2)))
            self.twice(lifted, program, 2, 1)
            self.twice(put_in, program, ("let", name(1), name(0)))

    def test_kind_of(self):
        names = (NONE, TWO, ONE)
        for seed in range(40):
            maker = Maker(seed)
            self.twice(kind_of, maker.of_kind(maker.kind(), names, 5), names)

    def programs(self):
        for seed in range(30):
            maker = Total(seed)
            names = NAMES[seed % len(NAMES)]
            yield maker, names, maker.of_kind(maker.some_kind(names), names, 4)

    def test_worlds_and_tables(self):
        for maker, names, program in self.programs():
            self.twice(rows, names)
            self.twice(table, program, names)
            for row in rows(names):
                self.twice(told, program, row, names)

    def test_book_and_walked(self):
        for maker, names, program in self.programs():
            for place in places(program):
                self.twice(names_at, program, place, names)
            for word in WORDS:
                found = maker.step(word, maker.some_kind(names), names, 3)
                if found is not None:
                    one, other, through = found
                    handed = (word, one, other, names, through)
                    before = copy.deepcopy(handed)
                    self.assertEqual([is_step(*handed), is_step(*handed), handed], [True, True, before])
                    row = [((), word, one, other, through), ((), word, other, one, through)]
                    self.twice(walked, one, names, row)
                    self.twice(reverse, row)

    def test_running_and_reckoning(self):
        for maker, names, program in self.programs():
            self.twice(going_on, program)
            self.twice(run, program)
            self.twice(run, program, 1)
            if names == ():
                self.twice(steps_of, program)

    def test_plain_and_leader(self):
        for maker, names, program in self.programs():
            kind = kind_of(program, names)
            self.twice(plain_table, names, kind, table(program, names))
            self.twice(lead, program, names)
            for thing in table(program, names):
                self.twice(plain_thing, kind, thing)

    def test_between_looks_and_around(self):
        for maker, names, program in self.programs():
            kind = kind_of(program, names)
            for other in (maker.of_kind(kind, names, 4), ("let", program, name(0))):
                self.twice(between, program, other, names)
                self.twice(surrounding, program, other, names)
                found = surrounding(program, other, names)
                if found is not None:
                    self.twice(surrounded, program, names, found[0], found[1])
                    self.twice(looked, kind, told(program, found[0], names), found[1])
                for row in rows(names):
                    self.twice(part, kind, told(program, row, names), told(other, row, names))

    def test_kept(self):
        for word in WORDS:
            self.twice(unlike, word)
            one, other, names, through = unlike(word)
            for another in WORDS:
                self.twice(kept, another, one, names)
                self.twice(kept, another, other, names)

    def test_texts_and_desk(self):
        for maker, names, program in self.programs():
            kind = kind_of(program, names)
            other = maker.of_kind(kind, names, 3)
            self.twice(show_kind, kind)
            self.twice(read_kind, show_kind(kind))
            self.twice(show_program, program)
            self.twice(read_program, show_program(program))
            for thing in table(program, names):
                self.twice(show_thing, thing)
                self.twice(read_thing, show_thing(thing))
            self.twice(answered, [show_kind(one) for one in names], show_program(program), show_program(other))

    def test_other_refusals_leave_nothing_behind(self):
        row = [((), "let", ("let", STAR, name(0)), STAR, None), ((0,), "let", STAR, STAR, None)]
        for turn in range(2):
            with self.assertRaises(NoStep) as taken:
                walked(("let", STAR, name(0)), (), row)
            self.assertEqual(taken.exception.at, 1)
            self.assertEqual(walked(("let", STAR, name(0)), (), row[:1]), STAR)
            with self.assertRaises(NoText):
                read_program("[let . #0")
            self.assertEqual(read_program("[let . #0]"), ("let", STAR, name(0)))
            with self.assertRaises(NoKind):
                answered(["1"], "#0", "#1")
            self.assertEqual(answered(["(1+1)"], "#0", "[inl 1 .]"), "unlike [>.] []")

    def test_a_refusal_leaves_nothing_behind(self):
        bad = ("way", TWO, ("let", STAR, ("case", name(1), name(0), name(7))))
        good = ("way", TWO, ("let", STAR, ("case", name(1), name(0), name(0))))
        for turn in range(2):
            with self.assertRaises(NoKind):
                kind_of(bad, (ONE,))
            self.assertEqual(kind_of(good, (ONE,)), way(TWO, ONE))


if __name__ == "__main__":
    unittest.main()
