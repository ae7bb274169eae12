"""Tests of luckwright.bounds: point [11], held against trying tables and spreads."""

import unittest
from fractions import Fraction
from itertools import product

from luckwright import bounds
from luckwright.errors import BadPaper, BadPart, BadSize

O, I, H, T = (0, 1), (1, 1), (1, 2), (1, 3)
CHANCES = (O, (1, 4), T, H, (3, 4), I)
NO_CHANCES = ((-1, 2), (3, 2), (1, 0))


def small(value):
    """Return a Fraction as a part."""
    return Fraction(value).numerator, Fraction(value).denominator


def shares(count, whole):
    """Return all rows of so many numbers from nought on that add up to a whole."""
    if count == 1:
        return [(whole,)]
    return [(first, *row) for first in range(whole + 1) for row in shares(count - 1, whole - first)]


def all_tables(many, whole):
    """Return all tables of so many things that come or don't, in equal shares: rows (which come, chance)."""
    cells = list(product((False, True), repeat=many))
    return [[(cell, Fraction(part, whole)) for cell, part in zip(cells, row)] for row in shares(len(cells), whole)]


def chance_in(table, test):
    """Return the chance of a table that a function tells True."""
    return sum(chance for cell, chance in table if test(cell))


def bounds_tried(many, whole, test):
    """Return, for each row of things' chances, the least and greatest chance of what a function tells in all tables."""
    found = {}
    for table in all_tables(many, whole):
        key = tuple(small(chance_in(table, lambda cell, at=at: cell[at])) for at in range(many))
        found.setdefault(key, []).append(chance_in(table, test))
    return {key: (small(min(row)), small(max(row))) for key, row in found.items()}


class BothTest(unittest.TestCase):
    def test_all_tables_lie_between_and_some_reach_both_ends(self):
        for (one, other), ends in bounds_tried(2, 12, all).items():
            self.assertEqual(bounds.both_bounds(one, other), ends)
            self.assertEqual(bounds.all_bounds([one, other]), ends)
        for (one, other), ends in bounds_tried(2, 12, any).items():
            self.assertEqual(bounds.either_bounds(one, other), ends)
            self.assertEqual(bounds.any_bounds((one, other)), ends)

    def test_nought_and_one(self):
        self.assertEqual(bounds.both_bounds(O, I), (O, O))
        self.assertEqual(bounds.both_bounds(I, I), (I, I))
        self.assertEqual(bounds.either_bounds(O, O), (O, O))
        self.assertEqual(bounds.either_bounds(I, O), (I, I))
        self.assertEqual(bounds.both_bounds((2, 4), (6, 8)), ((1, 4), H))
        self.assertEqual(bounds.either_bounds((2, 4), (6, 8)), ((3, 4), I))

    def test_more_and_fewer_things(self):
        for test, ask in ((any, bounds.any_bounds), (all, bounds.all_bounds)):
            for many in (1, 3):
                for chances, ends in bounds_tried(many, 4, test).items():
                    self.assertEqual(ask(chances), ends)
                    self.assertEqual(ask(list(chances)), ends)
        self.assertEqual(bounds.any_bounds([]), (O, O))
        self.assertEqual(bounds.all_bounds([]), (I, I))
        self.assertEqual(bounds.any_bounds([(1, 10)] * 4), ((1, 10), (2, 5)))
        self.assertEqual(bounds.all_bounds([(9, 10)] * 4), ((3, 5), (9, 10)))

    def test_no_chances(self):
        for chance in NO_CHANCES:
            for ask in (bounds.both_bounds, bounds.either_bounds):
                self.assertRaises(BadPart, ask, chance, H)
                self.assertRaises(BadPart, ask, H, chance)
            for ask in (bounds.any_bounds, bounds.all_bounds):
                self.assertRaises(BadPart, ask, [chance])
                self.assertRaises(BadPart, ask, [H, chance])

    def test_tables(self):
        for one, other, both in product(CHANCES, CHANCES, [small(Fraction(part, 12)) for part in range(-2, 15)]):
            first, second, common = Fraction(*one), Fraction(*other), Fraction(*both)
            cells = (common, first - common, second - common, 1 - first - second + common)
            if min(cells) < 0:
                self.assertRaises(BadPart, bounds.table, one, other, both)
            else:
                found = bounds.table(one, other, both)
                self.assertIs(type(found), tuple)
                self.assertEqual(found, tuple(small(cell) for cell in cells))
                self.assertEqual(bounds.check_both(one, other, found), small(common))
        self.assertEqual(bounds.table((2, 4), (2, 4), (2, 8)), ((1, 4),) * 4)

    def test_tables_refused(self):
        for chance in NO_CHANCES:
            self.assertRaises(BadPart, bounds.table, chance, H, O)
            self.assertRaises(BadPart, bounds.table, H, chance, O)
            self.assertRaises(BadPart, bounds.table, H, H, chance)

    def test_papers_of_both_reach_the_bounds(self):
        for one, other in product(CHANCES, repeat=2):
            for end in bounds.both_bounds(one, other):
                self.assertEqual(bounds.check_both(one, other, bounds.table(one, other, end)), end)

    def test_papers_are_taken_just_where_they_are_tables(self):
        parts = [Fraction(part, 4) for part in range(-1, 5)]
        for one, other in ((H, (1, 4)), (I, H), (O, O), ((3, 4), (3, 4))):
            for row in product(parts, repeat=4):
                rows = [small(part) for part in row]
                fits = (min(row) >= 0 and sum(row) == 1 and row[0] + row[1] == Fraction(*one)
                        and row[0] + row[2] == Fraction(*other))
                if fits:
                    self.assertEqual(bounds.check_both(one, other, rows), small(row[0]))
                else:
                    self.assertRaises(BadPaper, bounds.check_both, one, other, rows)

    def test_papers_of_another_form(self):
        for rows in ((), (I,), ((1, 4),) * 3, ((1, 5),) * 5, (H, O, O, (1, 4), (1, 4))):
            self.assertRaises(BadPaper, bounds.check_both, H, H, rows)
        self.assertEqual(bounds.check_both((2, 4), (3, 6), ((1, 4),) * 4), (1, 4))


class FarTest(unittest.TestCase):
    def spreads(self, numbers):
        """Return tables of numbers to chances, in quarters."""
        return [{value: Fraction(part, 4) for value, part in zip(numbers, row)} for row in shares(len(numbers), 4)]

    def test_far_bound(self):
        for table in self.spreads((0, 1, 2, 5)):
            mean = sum(value * chance for value, chance in table.items())
            for value in (Fraction(1, 3), 1, Fraction(3, 2), 2, 5, 7):
                bound = Fraction(*bounds.far_bound(small(mean), small(value)))
                self.assertLessEqual(sum(chance for one, chance in table.items() if one >= value), bound)
                self.assertEqual(bound, min(1, mean / value))
        self.assertEqual(bounds.far_bound((5, 1), (2, 1)), I)
        self.assertEqual(bounds.far_bound(O, (2, 1)), O)
        self.assertEqual(bounds.far_bound((2, 4), (4, 2)), (1, 4))

    def test_far_bound_is_reached(self):
        for mean, value in product((Fraction(0), Fraction(1, 2), Fraction(2)), (Fraction(2), Fraction(5, 2))):
            bound = Fraction(*bounds.far_bound(small(mean), small(value)))
            table = {value: bound, Fraction(0): 1 - bound}
            self.assertEqual(sum(one * chance for one, chance in table.items()), mean)

    def test_scatter_bounds(self):
        for table in self.spreads((-3, -1, 0, 4)):
            mean = sum(value * chance for value, chance in table.items())
            scatter = sum((value - mean) ** 2 * chance for value, chance in table.items())
            for far in (Fraction(1, 4), 1, Fraction(5, 2), 4, 7):
                both = Fraction(*bounds.scatter_bound(small(scatter), small(far)))
                above = Fraction(*bounds.one_side_bound(small(scatter), small(far)))
                self.assertLessEqual(sum(chance for one, chance in table.items() if abs(one - mean) >= far), both)
                self.assertLessEqual(sum(chance for one, chance in table.items() if one - mean >= far), above)
                self.assertEqual(both, min(1, scatter / Fraction(far) ** 2))
        self.assertEqual(bounds.scatter_bound((9, 1), (2, 1)), I)
        self.assertEqual(bounds.scatter_bound((1, 1), (2, 1)), (1, 4))
        self.assertEqual(bounds.scatter_bound(O, (2, 1)), O)
        self.assertEqual(bounds.one_side_bound((9, 1), (2, 1)), (9, 13))
        self.assertEqual(bounds.one_side_bound(O, (2, 1)), O)

    def test_scatter_bound_is_reached(self):
        for scatter, far in product((Fraction(0), Fraction(1, 2), Fraction(4)), (Fraction(2), Fraction(5, 2))):
            bound = Fraction(*bounds.scatter_bound(small(scatter), small(far)))
            self.assertEqual(far ** 2 * bound / 2 + (-far) ** 2 * bound / 2, scatter)

    def test_one_side_paper(self):
        for scatter, far in product((O, T, I, (5, 2), (40, 1)), (T, I, (2, 1), (7, 3))):
            paper = bounds.one_side_paper(scatter, far)
            self.assertEqual({type(row) for row in (paper, *paper)}, {tuple})
            rows = [(Fraction(*value), Fraction(*chance)) for value, chance in paper]
            self.assertEqual(paper, tuple((small(value), small(chance)) for value, chance in rows))
            self.assertEqual(sum(chance for value, chance in rows), 1)
            self.assertGreaterEqual(min(chance for value, chance in rows), 0)
            self.assertEqual(sum(value * chance for value, chance in rows), 0)
            self.assertEqual(sum(value ** 2 * chance for value, chance in rows), Fraction(*scatter))
            self.assertEqual(sum(chance for value, chance in rows if value >= Fraction(*far)),
                             Fraction(*bounds.one_side_bound(scatter, far)))

    def test_refused(self):
        for ask in (bounds.far_bound, bounds.scatter_bound, bounds.one_side_bound, bounds.one_side_paper):
            for one, other in (((-1, 2), I), (I, O), (I, (-1, 3)), (O, O), ((-1, 1), (-1, 1))):
                self.assertRaises(BadSize, ask, one, other)


class WhereTest(unittest.TestCase):
    def test_where(self):
        for one, part in product(CHANCES[1:], range(5)):
            both = Fraction(*one) * Fraction(part, 4)
            self.assertEqual(bounds.where(small(both), one), small(Fraction(part, 4)))
        self.assertEqual(bounds.where((2, 8), (2, 4)), H)
        for both, one in ((O, O), (H, O), (H, T), ((-1, 2), H), (H, (3, 2)), ((3, 2), (3, 2)), ((-1, 2), (-1, 2)),
                          (H, (1, 0))):
            self.assertRaises(BadPart, bounds.where, both, one)

    def test_turned(self):
        for chance, yes, no in product(CHANCES, repeat=3):
            so = Fraction(*chance) * Fraction(*yes)
            whole = so + (1 - Fraction(*chance)) * Fraction(*no)
            if whole == 0:
                self.assertRaises(BadPart, bounds.turned, chance, yes, no)
            else:
                self.assertEqual(bounds.turned(chance, yes, no), small(so / whole))
        self.assertEqual(bounds.turned((1, 100), (9, 10), (1, 10)), (1, 12))
        for chance in NO_CHANCES:
            self.assertRaises(BadPart, bounds.turned, chance, H, H)
            self.assertRaises(BadPart, bounds.turned, H, chance, H)
            self.assertRaises(BadPart, bounds.turned, H, H, chance)

    def test_all_apart(self):
        keys = [(one, other) for one in (0, 5) for other in (-1, 2)]
        for row in shares(4, 9):
            chances = [Fraction(part, 9) for part in row]
            table = {key: small(chance) for key, chance in zip(keys, chances)}
            apart = chances[0] * chances[3] == chances[1] * chances[2]
            self.assertIs(bounds.all_apart(table), apart)
            self.assertIs(bounds.all_apart({key: chance for key, chance in table.items() if chance != O}), apart)

    def test_all_apart_examples(self):
        self.assertIs(bounds.all_apart({(3, 4): I}), True)
        self.assertIs(bounds.all_apart({(one, other): (1, 12) for one in range(3) for other in range(4)}), True)
        self.assertIs(bounds.all_apart({(0, 0): H, (1, 1): H}), False)
        self.assertIs(bounds.all_apart({(0, 0): (2, 8), (0, 1): (2, 8), (1, 0): (2, 8), (1, 1): (2, 8)}), True)

    def test_all_apart_refused(self):
        for table in ({}, {(0, 0): H}, {(0, 0): I, (1, 1): H}, {(0, 0): (3, 2), (1, 1): (-1, 2)},
                      {(0, 0): (-1, 1), (1, 0): (2, 1)}):
            before = dict(table)
            self.assertRaises(BadPaper, bounds.all_apart, table)
            self.assertEqual(table, before)
