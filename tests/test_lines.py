"""Tests of luckwright.lines: point [6]'s square rows of chances, and exact sums of unknowns."""

import unittest
from fractions import Fraction
from itertools import product

from luckwright.errors import BadPart, BadTree
from luckwright.lines import by_row, check_rows, solved, step

SOME = [(0, 3), (1, 1), (-1, 2), (2, 4), (3, 1)]


def small(value):
    """Return a Fraction as a part."""
    return value.numerator, value.denominator


def turned(rows):
    """Return the sum over all orders of rows' products, each with its sign: nought for no only answer."""
    if not rows:
        return Fraction(1)
    return sum((-1) ** at * Fraction(*rows[0][at]) * turned([row[:at] + row[at + 1:] for row in rows[1:]])
               for at in range(len(rows)))


class SolvedTest(unittest.TestCase):
    def makes(self, rows, values, found):
        """Hold that rows by an answer make values just so."""
        self.assertIs(type(found), tuple)
        for row, value in zip(rows, values):
            self.assertEqual(sum(Fraction(*one) * Fraction(*other) for one, other in zip(row, found)),
                             Fraction(*value))
        for one in found:
            self.assertEqual(one, small(Fraction(*one)))

    def test_no_rows(self):
        self.assertEqual(solved([], []), ())
        self.assertEqual(solved((), ()), ())

    def test_one_unknown(self):
        self.assertEqual(solved([[(2, 1)]], [(1, 1)]), ((1, 2),))
        self.assertEqual(solved([[(2, 4)]], [(0, 5)]), ((0, 1),))
        self.assertIsNone(solved([[(0, 1)]], [(0, 1)]))
        self.assertIsNone(solved([[(0, 1)]], [(1, 1)]))

    def test_all_of_two_unknowns(self):
        for a, b, c, d in product(SOME, repeat=4):
            for values in (((0, 1), (0, 1)), ((1, 1), (-2, 3))):
                rows = [(a, b), (c, d)]
                found = solved(rows, values)
                if turned(rows) == 0:
                    self.assertIsNone(found)
                else:
                    self.makes(rows, values, found)

    def test_three_unknowns(self):
        for first, second in product(product(SOME[:3], repeat=3), repeat=2):
            rows = [list(first), list(second), [(1, 1), (2, 1), (-1, 3)]]
            values = [(1, 2), (0, 1), (5, 1)]
            found = solved(rows, values)
            if turned(rows) == 0:
                self.assertIsNone(found)
            else:
                self.makes(rows, values, found)

    def test_first_unknown_not_in_the_first_rows(self):
        rows = [[(0, 1), (0, 1), (2, 1)], [(0, 1), (3, 1), (1, 1)], [(5, 1), (1, 1), (1, 1)]]
        found = solved(rows, [(2, 1), (4, 1), (7, 1)])
        self.assertEqual(found, ((1, 1), (1, 1), (1, 1)))

    def test_rows_that_are_not_square(self):
        self.assertIsNone(solved([[(1, 1), (1, 1)]], [(1, 1)]))
        rows = [[(1, 1)], [(2, 1)]]
        self.assertEqual(solved(rows, [(1, 2), (1, 1)]), ((1, 2),))
        self.assertIsNone(solved(rows, [(1, 2), (2, 1)]))

    def test_nothing_handed_in_is_changed(self):
        rows, values = [[(0, 1), (2, 4)], [(2, 1), (1, 1)]], [(1, 1), (2, 1)]
        self.assertEqual(solved(rows, values), ((0, 1), (2, 1)))
        self.assertEqual((rows, values), ([[(0, 1), (2, 4)], [(2, 1), (1, 1)]], [(1, 1), (2, 1)]))

    def test_by_row(self):
        self.assertEqual(by_row([], []), (0, 1))
        for a, b, c, d in product(SOME, repeat=4):
            value = Fraction(*a) * Fraction(*c) + Fraction(*b) * Fraction(*d)
            self.assertEqual(by_row([a, b], (c, d)), small(value))


class RowsTest(unittest.TestCase):
    def test_rows_are_made_small_and_told_as_tuples(self):
        found = check_rows([[(2, 4), (3, 6)], ((0, 7), (-5, -5))])
        self.assertEqual(found, [((1, 2), (1, 2)), ((0, 1), (1, 1))])
        self.assertIs(type(found), list)
        self.assertEqual([type(row) for row in found], [tuple, tuple])
        self.assertEqual(check_rows((((3, 3),),)), [((1, 1),)])

    def test_rows_handed_in_are_not_changed(self):
        rows = [[(2, 4), (3, 6)], [(0, 7), (1, 1)]]
        check_rows(rows).clear()
        self.assertEqual(rows, [[(2, 4), (3, 6)], [(0, 7), (1, 1)]])

    def test_not_square(self):
        half = (1, 2)
        for rows in ([], (), [[]], [[half, half]], [[(1, 1)], [(1, 1)]], [[half, half], [(1, 1)]],
                     [[half, half], [half, half, (0, 1)]], [[half, half], []]):
            self.assertRaises(BadTree, check_rows, rows)

    def test_not_one_in_all(self):
        half = (1, 2)
        for row in ([half, (1, 3)], [half, (2, 3)], [(0, 1), (0, 1)], [(3, 2), (-1, 2)], [(-1, 2), (3, 2)],
                    [(1, 1), (1, 1)]):
            self.assertRaises(BadTree, check_rows, [row, [half, half]])
            self.assertRaises(BadTree, check_rows, [[half, half], row])

    def test_by_nought(self):
        self.assertRaises(BadPart, check_rows, [[(1, 0)]])

    def test_step(self):
        rows = [((1, 2), (1, 2), (0, 1)), ((0, 1), (1, 3), (2, 3)), ((1, 4), (0, 1), (3, 4))]
        for start in product(SOME, repeat=3):
            found = step(start, rows)
            self.assertIs(type(found), tuple)
            for place in range(3):
                value = sum(Fraction(*start[at]) * Fraction(*rows[at][place]) for at in range(3))
                self.assertEqual(found[place], small(value))
        self.assertEqual(step([(1, 1), (0, 2), (0, 1)], rows), rows[0])
        self.assertEqual(step([(1, 1)], [[(1, 1)]]), ((1, 1),))
