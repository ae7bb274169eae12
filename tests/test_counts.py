"""Tests of luckwright.counts: point [2], held against counting out all cases."""

import unittest
from itertools import combinations, permutations, product
from math import factorial

from luckwright import counts
from luckwright.errors import BadSize


def rings_of(order):
    """Return how many rings an order has."""
    seen = set()
    rings = 0
    for place in order:
        rings += place not in seen
        while place not in seen:
            seen.add(place)
            place = order[place]
    return rings


def wrong_pairs(order):
    """Return how many pairs of an order stand the wrong way round."""
    return sum(one > other for one, other in combinations(order, 2))


def rows_of(many, few):
    """Return all rows that send each of many to one of few."""
    return product(range(few), repeat=many)


def is_ahead(votes):
    """Tell whether yes, 1, is ahead of no, -1, at each vote."""
    return all(sum(votes[:place + 1]) > 0 for place in range(len(votes)))


def falling_rows(many, most):
    """Return all rows of numbers from a most down to one, none rising, with a sum."""
    if many == 0:
        return [()]
    return [(one,) + row for one in range(1, min(most, many) + 1) for row in falling_rows(many - one, one)]


class CountsTest(unittest.TestCase):
    def refused(self, count, *rows):
        """Hold that each row of arguments is refused as out of bounds."""
        for row in rows:
            with self.subTest(row=row):
                self.assertRaises(BadSize, count, *row)

    def test_check_count(self):
        self.assertEqual([counts.check_count(many) for many in (0, 1, 77)], [0, 1, 77])
        self.refused(counts.check_count, (-1,), (-5,))

    def test_factorial(self):
        for many in range(7):
            self.assertEqual(counts.factorial(many), len(list(permutations(range(many)))))
        self.assertEqual(counts.factorial(20), 2432902008176640000)
        self.refused(counts.factorial, (-1,))

    def test_choose(self):
        for many, few in product(range(8), range(11)):
            self.assertEqual(counts.choose(many, few), len(list(combinations(range(many), few))))
        for many in (0, 1, 5):
            self.assertEqual(counts.choose(many, -1), 0)
            self.assertEqual(counts.choose(many, many + 1), 0)
        self.refused(counts.choose, (-1, 0), (-1, -1), (-3, 2))

    def test_falling(self):
        for many, few in product(range(7), range(9)):
            self.assertEqual(counts.falling(many, few), len(list(permutations(range(many), few))))
        self.refused(counts.falling, (-1, 0), (3, -1), (-1, -1))

    def test_split_ways(self):
        for sizes in product(range(4), repeat=3):
            if sum(sizes) < 7:
                rows = [[row.count(lot) for lot in range(3)] for row in rows_of(sum(sizes), 3)]
                self.assertEqual(counts.split_ways(sizes), rows.count(list(sizes)))
        self.assertEqual(counts.split_ways([]), 1)
        self.assertEqual(counts.split_ways([0]), 1)
        self.assertEqual(counts.split_ways([5]), 1)
        self.assertEqual(counts.split_ways([2, 2, 1, 1]), factorial(6) // 4)
        self.refused(counts.split_ways, ([-1],), ([3, -1],), ((-1, 2),))

    def test_none_home(self):
        for many in range(8):
            orders = [order for order in permutations(range(many)) if all(order[at] != at for at in range(many))]
            self.assertEqual(counts.none_home(many), len(orders))
        self.refused(counts.none_home, (-1,))

    def test_onto(self):
        for many, few in product(range(6), range(6)):
            rows = [row for row in rows_of(many, few) if len(set(row)) == few]
            self.assertEqual(counts.onto(many, few), len(rows))
        self.refused(counts.onto, (-1, 0), (0, -1), (3, -1), (-1, 3))

    def test_lots(self):
        for many, few in product(range(6), range(6)):
            rows = {tuple(sorted(tuple(at for at in range(many) if row[at] == lot) for lot in range(few)))
                    for row in rows_of(many, few) if len(set(row)) == few}
            self.assertEqual(counts.lots(many, few), len(rows))
        self.refused(counts.lots, (-1, 0), (0, -1), (3, -1), (-1, 3))

    def test_sums(self):
        for many, few in product(range(6), range(5)):
            rows = [row for row in product(range(many + 1), repeat=few) if sum(row) == many]
            self.assertEqual(counts.sums(many, few), len(rows))
        self.refused(counts.sums, (-1, 0), (0, -1), (3, -1), (-1, 3))

    def test_parts_of(self):
        for many, most in product(range(10), range(12)):
            self.assertEqual(counts.parts_of(many, most), len(falling_rows(many, most)))
        self.assertEqual(counts.parts_of(100, 100), 190569292)
        self.refused(counts.parts_of, (-1, 0), (-1, 3), (0, -1), (3, -1))

    def test_cycles(self):
        for many, few in product(range(7), range(9)):
            orders = [order for order in permutations(range(many)) if rings_of(order) == few]
            self.assertEqual(counts.cycles(many, few), len(orders))
        self.refused(counts.cycles, (-1, 0), (0, -1), (3, -1), (-1, 3))

    def test_crossings(self):
        for many in range(7):
            pairs = [wrong_pairs(order) for order in permutations(range(many))]
            row = counts.crossings(many)
            self.assertIs(type(row), tuple)
            self.assertEqual(row, tuple(pairs.count(count) for count in range(max(pairs) + 1)))
        self.assertEqual(counts.crossings(0), (1,))
        self.assertEqual(sum(counts.crossings(12)), factorial(12))
        self.refused(counts.crossings, (-1,))

    def test_ahead_ways(self):
        for yes, no in product(range(6), range(6)):
            orders = [votes for votes in product((1, -1), repeat=yes + no) if votes.count(1) == yes]
            self.assertEqual(counts.ahead_ways(yes, no), sum(is_ahead(votes) for votes in orders))
        self.assertEqual(counts.ahead_ways(0, 0), 1)
        self.refused(counts.ahead_ways, (-1, 0), (0, -1), (3, -1), (-1, 3))
