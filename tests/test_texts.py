"""[25]: kinds, programs and things written, and read back; all other texts refused."""

import unittest

from evenkinds.errors import EvenError, NoText
from evenkinds.reading import read_kind, read_program, read_thing
from evenkinds.writing import show_kind, show_program, show_thing
from tests.samples import (
    FOUR, HUNDRED, NONE, ONE, ONE_OF_EACH, STAR, THREE, TWO, Maker, both, chain, either, few, name, small_kinds,
    things_again, way,
)

L, R = ("l", ()), ("r", ())

KINDS = (
    (NONE, "0"), (ONE, "1"), (TWO, "(1+1)"), (both(ONE, NONE), "(1*0)"), (way(NONE, ONE), "(0>1)"),
    (THREE, "(1+(1+1))"), (either(TWO, ONE), "((1+1)+1)"), (FOUR, "((1+1)*(1+1))"),
    (way(both(ONE, NONE), either(NONE, ONE)), "((1*0)>(0+1))"), (way(ONE, way(ONE, ONE)), "(1>(1>1))"),
)

PROGRAMS = (
    (name(0), "#0"), (name(7), "#7"), (name(10), "#10"), (name(100), "#100"), (name(9999), "#9999"), (STAR, "."),
    (("pair", name(0), STAR), "(#0,.)"), (("first", name(0)), "[fst #0]"), (("second", STAR), "[snd .]"),
    (("left", TWO, STAR), "[inl (1+1) .]"), (("right", ONE, name(3)), "[inr 1 #3]"),
    (("case", name(0), name(1), name(2)), "[case #0 #1 #2]"), (("way", way(ONE, NONE), name(0)), "[way (1>0) #0]"),
    (("give", name(1), STAR), "[give #1 .]"), (("let", STAR, name(0)), "[let . #0]"),
    (("never", both(ONE, TWO), name(12)), "[never (1*(1+1)) #12]"),
    (("pair", ("first", name(0)), STAR), "([fst #0],.)"),
    (("case", ("pair", STAR, STAR), ("left", NONE, ("pair", name(0), name(0))), ("let", name(0), ("first", name(1)))),
     "[case (.,.) [inl 0 (#0,#0)] [let #0 [fst #1]]]"),
    (("give", ("way", ONE, ("way", TWO, ("pair", name(0), name(1)))), ("never", ONE, ("second", name(20)))),
     "[give [way 1 [way (1+1) (#0,#1)]] [never 1 [snd #20]]]"),
)

THINGS = (
    ((), "."), (L, "<."), (R, ">."), (("l", R), "<>."), (("r", ("r", L)), ">><."), (("p", (), L), "(.,<.)"),
    (("w", ()), "{}"), (("w", ((),)), "{.}"), (("w", (L, R)), "{<.,>.}"), (("w", (L, R, ("l", ("p", (), ())))),
                                                                            "{<.,>.,<(.,.)}"),
    (("p", ("w", (("w", ()), ("w", ()))), ("r", ("w", ((),)))), "({{},{}},>{.})"),
)


class Written(unittest.TestCase):
    def test_each_form(self):
        for show, read, pairs in ((show_kind, read_kind, KINDS), (show_program, read_program, PROGRAMS),
                                  (show_thing, read_thing, THINGS)):
            for one, text in pairs:
                self.assertEqual(show(one), text)
                self.assertEqual(read(text), one)

    def test_kinds_there_and_back(self):
        for kind in small_kinds(3) + [HUNDRED]:
            self.assertEqual(read_kind(show_kind(kind)), kind)

    def test_programs_there_and_back(self):
        texts = {}
        for seed in range(400):
            program = Maker(seed).any_program(6)
            text = show_program(program)
            self.assertEqual(read_program(text), program)
            self.assertEqual(texts.setdefault(text, program), program)
        for program in ONE_OF_EACH:
            self.assertEqual(read_program(show_program(program)), program)

    def test_things_there_and_back(self):
        for kind in few(small_kinds(3), 30) + [way(TWO, way(TWO, TWO)), both(way(THREE, TWO), either(FOUR, ONE))]:
            for thing in things_again(kind):
                self.assertEqual(read_thing(show_thing(thing)), thing)

    def test_numbers_of_one_to_four_figures(self):
        for number in list(range(120)) + [999, 1000, 1001, 9998, 9999]:
            self.assertEqual(show_program(name(number)), "#" + str(number))
            read = read_program("#" + str(number))
            self.assertEqual(read, name(number))
            self.assertIs(type(read[1]), int)

    def test_at_the_bounds(self):
        for read, show, step, end in (
            (read_kind, show_kind, lambda one: either(one, ONE), NONE),
            (read_kind, show_kind, lambda one: way(ONE, one), NONE),
            (read_program, show_program, lambda one: ("pair", STAR, one), name(5)),
            (read_program, show_program, lambda one: ("first", one), STAR),
            (read_program, show_program, lambda one: ("left", TWO, one), STAR),
            (read_thing, show_thing, lambda one: ("l", one), ()), (read_thing, show_thing, lambda one: ("r", one), ()),
            (read_thing, show_thing, lambda one: ("p", (), one), ()),
            (read_thing, show_thing, lambda one: ("w", (one, ())), ()),
        ):
            whole = chain(60, step, end)
            self.assertEqual(read(show(whole)), whole)
        long = "{" + ",".join(["."] * 1999) + "}"
        self.assertEqual(read_thing(long), ("w", ((),) * 1999))

    def test_far_deeper(self):
        text = show_program(chain(3000, lambda one: ("first", one), STAR))
        self.assertEqual(text, "[fst " * 3000 + "." + "]" * 3000)
        self.assertEqual(show_program(read_program(text)), text)
        self.assertEqual(show_thing(read_thing("<" * 3990 + ".")), "<" * 3990 + ".")
        text = "(1+" * 1000 + "0" + ")" * 1000
        self.assertEqual(show_kind(read_kind(text)), text)


class Refused(unittest.TestCase):
    def refuses(self, read, texts):
        for text in texts:
            with self.assertRaises(NoText, msg=repr(text)):
                read(text)

    def test_none_at_all(self):
        for read in (read_kind, read_program, read_thing):
            self.refuses(read, ("", " ", "(", ")", "[", "]", "{", "}", ",", "a", "?", "()", "[]", "\n", "-", "%"))

    def test_kinds(self):
        self.refuses(read_kind, (
            "2", "00", "01", "1 ", " 1", "(1)", "(1+1", "1+1", "1+1)", "(1+1))", "((1+1)", "(1 +1)", "(1+ 1)", "(1-1)",
            "(1,1)", "(1+1+1)", "(+1)", "(1+)", "(11)", "(1+1) ", "[1+1]", "{1+1}", "(1++1)", "(1<1)", ".", "#0", "()",
            "(1+1)(1+1)", "(1+1)1", "none", "(1*", "(1>", "(", "((", "(0>1}",
        ))

    def test_numbers(self):
        self.refuses(read_program, (
            "#", "#00", "#01", "#0001", "#007", "#10000", "#12345", "#99999999999", "#-1", "#+1", "# 1", "#1 ", "#1.",
            "#1_0", "#1e3", "#a", "#0x1", "##1", "1", "#1#1", "#" + "1" * 3999, "#00000", "#\u0661", "#\u00b2",
            "#True", "#1,",
        ))

    def test_programs(self):
        self.refuses(read_program, (
            "fst #0", "[fst #0", "fst #0]", "[fst #0]]", "[[fst #0]]", "[fst  #0]", "[fst#0]", "[ fst #0]", "[fst #0 ]",
            "[fst]", "[fst ]", "[fst #0 #0]", "[snd]", "[Fst #0]", "[first #0]", "[fs #0]", "[fstt #0]", "[#0]", "[.]",
            "[fst #0] ", " [fst #0]", "[ ]", "(.)", "(.,.", ".,.", "(.,.))", "((.,.)", "(., .)", "(. ,.)", "( .,.)",
            "(.,. )", "(.;.)", "(. .)", "(.,.,.)", "(,.)", "(.,)", "(..)", "..", ". .", "[.,.]", "{.,.}", "(fst #0)",
            "[inl .]", "[inl 1]", "[inl 1 ]", "[inl . 1]", "[inl 1 . .]", "[inl 1. ]", "[inl 1  .]", "[inl (1+1).]",
            "[inl 2 .]", "[inl (1+1 .]", "[inl 1 1]", "[inl 0,.]", "[inr]", "[inr 1 1 .]", "[case . .]", "[case . . . .]",
            "[case .,.,.]", "[case  . . .]", "[case . .  .]", "[case . . .", "[way .]", "[way 1]", "[way 1 . .]",
            "[way . 1]", "[give .]", "[give . . .]", "[give .,.]", "[let .]", "[let . . .]", "[let . .)", "[never .]",
            "[never 1]", "[never 1 . .]", "[never . .]", "[star]", "[name 0]", "[pair . .]", "[none .]", "*", "<.", "{}",
            "[\tfst .]", "[fst\t.]", "[fst\n.]", "[fst .]\n", "[let . #]", "[let . #01]", "[let . #0]#0",
        ))

    def test_things(self):
        self.refuses(read_thing, (
            "..", "<", ">", "<<", ".<", "<.>", "< .", " <.", "<. ", "(.)", "(.,.", ".,.", "(.,.,.)", "(.,.))", "(,.)",
            "(.,)", "(., .)", "{.", ".}", "{,}", "{.,}", "{,.}", "{. .}", "{., .}", "{ }", "{}}", "{{}", "{.;.}", "{}.",
            "{.}{.}", "[.]", "[.,.]", "#0", "0", "1", "l", "<(.,.", "({},{}", "{..}", "(..)", "{(.,.}", "{<}",
        ))

    def test_one_sign_left_out_doubled_or_exchanged(self):
        # What is read all the same must be written so.
        for show, read, pairs in ((show_kind, read_kind, KINDS), (show_program, read_program, PROGRAMS),
                                  (show_thing, read_thing, THINGS)):
            refused = 0
            for one, text in pairs:
                for number in range(len(text)):
                    for put in ("", text[number] * 2) + tuple("()[]{}<>,.#01 +*af"):
                        other = text[:number] + put + text[number + 1:]
                        try:
                            self.assertEqual(show(read(other)), other)
                        except NoText:
                            refused += 1
            self.assertGreater(refused, 300)

    def test_the_refusal(self):
        with self.assertRaises(EvenError):
            read_kind("x")


if __name__ == "__main__":
    unittest.main()
