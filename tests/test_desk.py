"""[26]: the desk."""

import unittest

from evenkinds.around import surrounding
from evenkinds.between import between
from evenkinds.desk import answered
from evenkinds.errors import NoKind, NoText
from evenkinds.writing import show_kind, show_program, show_thing
from tests.samples import (
    FOUR, NONE, ONE, TWO, Total, both, either, few, rows_again, small_kinds, way,
)

SMALL = few(small_kinds(3), 4)
TURNED = "[case #0 [inr 1 .] [inl 1 .]]"


class Alike(unittest.TestCase):
    def test_the_number_of_steps(self):
        for kinds, one, other, names, first, second in (
            ([], ".", "[let . #0]", (), ("star",), ("let", ("star",), ("name", 0))),
            (["1"], "#0", ".", (ONE,), ("name", 0), ("star",)),
            (["(1+1)"], "#0", "[case #0 [inl 1 .] [inr 1 .]]", (TWO,), ("name", 0),
             ("case", ("name", 0), ("left", ONE, ("star",)), ("right", ONE, ("star",)))),
        ):
            steps = len(between(first, second, names))
            self.assertEqual(answered(kinds, one, other), f"alike {steps}")

    def test_names_of_none(self):
        self.assertRegex(answered(["0"], "[inl 1 .]", "[inr 1 .]"), r"^alike [1-9][0-9]*$")
        self.assertRegex(answered(["0"], "[inl 1 .]", "[never (1+1) #0]"), r"^alike [1-9][0-9]*$")

    def test_a_program_and_itself(self):
        self.assertRegex(answered([], ".", "."), r"^alike (0|[1-9][0-9]*)$")


class Unlike(unittest.TestCase):
    def test_rows_of_none_one_and_two_things(self):
        self.assertEqual(answered([], "[inl 1 .]", "[inr 1 .]"), "unlike [] []")
        self.assertEqual(answered(["(1+1)"], "#0", TURNED), "unlike [<.] []")
        self.assertEqual(answered(["(1+1)"], "#0", "[inl 1 .]"), "unlike [>.] []")
        self.assertEqual(answered(["(1+1)", "(1+1)"], "#0", "#1"), "unlike [<.,>.] []")
        self.assertEqual(answered(["((1+1)>(1+1))", "1"], "[give #0 [inl 1 .]]", "[inl 1 .]"),
                         "unlike [{>.,<.},.] []")
        self.assertEqual(answered(["1", "(1*(1+1))"], "[snd #1]", "[inr 1 .]"), "unlike [.,(.,<.)] []")

    def test_each_look(self):
        self.assertEqual(answered([], "([inl 1 .],.)", "([inr 1 .],.)"), "unlike [] [first]")
        self.assertEqual(answered([], "(.,[inl 1 .])", "(.,[inr 1 .])"), "unlike [] [second]")
        self.assertEqual(answered([], "[inl 1 [inl 1 .]]", "[inl 1 [inr 1 .]]"), "unlike [] [left]")
        self.assertEqual(answered([], "[inr 1 [inl 1 .]]", "[inr 1 [inr 1 .]]"), "unlike [] [right]")
        self.assertEqual(answered([], "[way (1+1) #0]", "[way (1+1) [inl 1 .]]"), "unlike [] [>.]")
        self.assertEqual(answered([], "[way 1 [inl 1 .]]", "[way 1 [inr 1 .]]"), "unlike [] [.]")
        self.assertEqual(answered([], "[way (1*1) [inl 1 .]]", "[way (1*1) [inr 1 .]]"), "unlike [] [(.,.)]")
        self.assertEqual(answered([], "[way (0>1) [inl 1 .]]", "[way (0>1) [inr 1 .]]"), "unlike [] [{}]")

    def test_several_looks(self):
        self.assertEqual(
            answered(["(1+1)"], "(.,[inl 1 [way (1+1) (#0,#1)]])", "(.,[inl 1 [way (1+1) (#0,#0)]])"),
            "unlike [>.] [second,left,<.,second]")


class Refused(unittest.TestCase):
    def refuses(self, error, kinds, one, other):
        with self.assertRaises(error) as taken:
            answered(kinds, one, other)
        self.assertIs(type(taken.exception), error)

    def test_texts_that_are_none(self):
        self.refuses(NoText, ["2"], ".", ".")
        self.refuses(NoText, ["1", "(1+1"], ".", ".")
        self.refuses(NoText, ["1"], "fst #0", ".")
        self.refuses(NoText, ["1"], ".", "[fst  #0]")
        self.refuses(NoText, [""], ".", ".")
        self.refuses(NoText, [], "", ".")
        self.refuses(NoText, [], ".", "")

    def test_texts_ahead_of_kinds(self):
        self.refuses(NoText, ["x"], "#7", ".")
        self.refuses(NoText, [], "#7", "x")
        self.refuses(NoText, [], "[fst .]", "[inl 1 .")
        self.refuses(NoText, [], "x", "#7")

    def test_programs_without_kind(self):
        self.refuses(NoKind, [], "#0", ".")
        self.refuses(NoKind, [], ".", "#0")
        self.refuses(NoKind, ["1"], "[fst #0]", "[fst #0]")
        self.refuses(NoKind, ["(1+1)"], "#0", "[case #0 . #0]")

    def test_unlike_kinds(self):
        self.refuses(NoKind, ["1", "(1+1)"], "#0", "#1")
        self.refuses(NoKind, [], ".", "[inl 1 .]")
        self.refuses(NoKind, [], "[inl 1 .]", "[inl (1+1) .]")
        self.refuses(NoKind, ["0"], "#0", ".")


class ManyPrograms(unittest.TestCase):
    def test_as_between_and_surrounding_tell(self):
        words = []
        for seed in range(250):
            maker = Total(seed, SMALL[seed % 5::5] + [TWO])
            names = tuple(maker.chance.choice(SMALL) for number in range(seed % 3))
            if len(rows_again(names)) > 8:
                continue
            kind = maker.chance.choice((TWO, FOUR, way(TWO, TWO), both(either(TWO, ONE), ONE), way(NONE, TWO)))
            one, other = maker.of_kind(kind, names, 3), maker.of_kind(kind, names, 3)
            kinds = [show_kind(name) for name in names]
            answer = answered(kinds, show_program(one), show_program(other))
            row, found = between(one, other, names), surrounding(one, other, names)
            if row is not None:
                self.assertEqual(answer, "alike " + str(len(row)))
            else:
                things = ",".join(show_thing(thing) for thing in found[0])
                looks = ",".join(show_thing(look[1]) if look[0] == "give" else look[0] for look in found[1])
                self.assertEqual(answer, "unlike [" + things + "] [" + looks + "]")
            words.append(answer.split(" ")[0])
            self.assertEqual(kinds, [show_kind(name) for name in names])
            self.assertEqual(answered(kinds, show_program(one), show_program(other)), answer)
        self.assertGreater(words.count("alike"), 20)
        self.assertGreater(words.count("unlike"), 20)


if __name__ == "__main__":
    unittest.main()
