"""[10], [11]: the rows of names, and the tables of programs."""

import unittest

from evenkinds.tables import rows, table
from evenkinds.worlds import told
from tests.samples import (
    FOUR, NONE, ONE, STAR, THREE, TWO, Total, both, either, name, rows_again, table_again, things_again, way,
)

L, R = ("l", ()), ("r", ())


class Rows(unittest.TestCase):
    def test_no_names(self):
        self.assertEqual(rows(()), [()])

    def test_one_name(self):
        self.assertEqual(rows((TWO,)), [(L,), (R,)])
        self.assertEqual(rows((ONE,)), [((),)])
        for kind in (THREE, FOUR, way(TWO, THREE), both(TWO, THREE), either(NONE, TWO)):
            self.assertEqual(rows((kind,)), [(thing,) for thing in things_again(kind)])

    def test_two_names(self):
        self.assertEqual(rows((TWO, TWO)), [(L, L), (L, R), (R, L), (R, R)])
        self.assertEqual(rows((TWO, ONE)), [(L, ()), (R, ())])
        self.assertEqual(rows((THREE, TWO)), [(a, b) for a in things_again(THREE) for b in (L, R)])

    def test_three_names(self):
        names = (TWO, THREE, FOUR)
        self.assertEqual(rows(names), rows_again(names))
        self.assertEqual(len(rows((FOUR, FOUR, FOUR))), 64)
        self.assertEqual(rows((FOUR, FOUR, FOUR)), rows_again((FOUR, FOUR, FOUR)))

    def test_names_without_things(self):
        for kind in (NONE, both(TWO, NONE), way(ONE, NONE), either(NONE, NONE)):
            self.assertEqual(rows((kind,)), [])
            self.assertEqual(rows((TWO, kind)), [])
            self.assertEqual(rows((kind, TWO)), [])
            self.assertEqual(rows((TWO, kind, ONE)), [])
        self.assertEqual(rows((way(NONE, NONE),)), [(("w", ()),)])

    def test_the_askers_own(self):
        told_rows = rows((TWO, ONE))
        told_rows.append("changed")
        told_rows[0] = None
        self.assertEqual(rows((TWO, ONE)), [(L, ()), (R, ())])
        self.assertIs(type(rows(())), list)


class Table(unittest.TestCase):
    def test_over_no_names(self):
        self.assertEqual(table(STAR, ()), [()])
        self.assertEqual(table(("way", TWO, name(0)), ()), [("w", (L, R))])

    def test_in_order(self):
        names = (TWO, THREE)
        self.assertEqual(table(name(0), names), [row[0] for row in rows_again(names)])
        self.assertEqual(table(name(1), names), [row[1] for row in rows_again(names)])
        self.assertEqual(table(("pair", name(1), name(0)), names), [("p", b, a) for a, b in rows_again(names)])

    def test_names_without_things(self):
        for kind in (NONE, both(TWO, NONE), either(NONE, NONE)):
            self.assertEqual(table(STAR, (kind, TWO)), [])
            self.assertEqual(table(name(1), (TWO, kind)), [])
        self.assertEqual(table(("never", TWO, name(0)), (NONE,)), [])

    def test_what_is_told_at_each_row(self):
        for seed in range(150):
            maker = Total(seed)
            names = tuple(maker.chance.choice(maker.KINDS) for number in range(seed % 4))
            program = maker.of_kind(maker.some_kind(names), names, 3 + seed % 4)
            answer = table(program, names)
            self.assertEqual(answer, table_again(program, names))
            self.assertEqual(answer, [told(program, row, names) for row in rows(names)])

    def test_three_names_with_sixty_four_rows(self):
        program = ("pair", ("first", name(0)), ("pair", name(2), ("second", name(1))))
        names = (FOUR, FOUR, FOUR)
        self.assertEqual(table(program, names), [("p", a[1], ("p", c, b[2])) for a, b, c in rows_again(names)])

    def test_the_askers_own(self):
        answer = table(name(0), (TWO,))
        answer.append("changed")
        answer[0] = None
        self.assertEqual(table(name(0), (TWO,)), [L, R])
        self.assertIs(type(table(STAR, (NONE,))), list)


if __name__ == "__main__":
    unittest.main()
