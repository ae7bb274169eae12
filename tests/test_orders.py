"""Tests of luckwright.orders: point [10], held against going through all orders."""

import unittest
from fractions import Fraction
from itertools import combinations, permutations, product

from luckwright import orders
from luckwright.errors import BadSize
from luckwright.spreads import Spread

MANY = range(1, 6)


def small(value):
    """Return a Fraction as a part."""
    return Fraction(value).numerator, Fraction(value).denominator


def all_orders(many):
    """Return all orders of so many."""
    return list(permutations(range(many)))


def counted(rows):
    """Return the spread of numbers that are all cases, each alike."""
    return Spread({value: rows.count(value) for value in rows}).shown()


def share(rows):
    """Return the part of all cases that are True."""
    return small(Fraction(sum(1 for row in rows if row), len(rows)))


def ring_of(order, place):
    """Return the ring of an order that a place stands in, by going it on."""
    found = [place]
    while order[found[-1]] != place:
        found.append(order[found[-1]])
    return found


def takes_best(order, skipped):
    """Tell whether the greatest is taken: the first above all ahead behind those let go, the first one for none."""
    for place, one in enumerate(order):
        if place >= skipped and all(one > other for other in order[:place]):
            return one == len(order) - 1
    return False


def rise_of(row):
    """Return the greatest length of a rising part of a row, by trying all parts."""
    return max(long for long in range(len(row) + 1) for part in combinations(row, long)
               if all(one < other for one, other in zip(part, part[1:])))


class OrdersTest(unittest.TestCase):
    def test_check_many(self):
        for many in (1, 2, 50):
            self.assertEqual(orders.check_many(many), many)
        for many in (0, -1, -7):
            self.assertRaises(BadSize, orders.check_many, many)

    def test_wrong_pairs(self):
        for many in MANY:
            cases = [sum(one > other for one, other in combinations(order, 2)) for order in all_orders(many)]
            self.assertEqual(orders.wrong_pairs(many).shown(), counted(cases))

    def test_at_home(self):
        for many in MANY:
            cases = [sum(place == one for place, one in enumerate(order)) for order in all_orders(many)]
            self.assertEqual(orders.at_home(many).shown(), counted(cases))

    def test_rings_and_tops_go_together(self):
        for many in MANY:
            rows = all_orders(many)
            rings = [len({min(ring_of(order, place)) for place in range(many)}) for order in rows]
            tops = [sum(max(order[:place + 1]) == one for place, one in enumerate(order)) for order in rows]
            self.assertEqual(orders.rings(many).shown(), counted(rings))
            self.assertEqual(orders.tops(many).shown(), counted(tops))
            self.assertEqual(orders.rings(many).shown(), orders.tops(many).shown())

    def test_counts_below_one(self):
        for ask in (orders.wrong_pairs, orders.at_home, orders.rings, orders.tops, orders.best_skipped,
                    orders.rise_spread):
            for many in (0, -1, -3):
                self.assertRaises(BadSize, ask, many)

    def test_best_chance(self):
        for many in MANY:
            for skipped in range(many):
                cases = [takes_best(order, skipped) for order in all_orders(many)]
                self.assertEqual(orders.best_chance(many, skipped), share(cases))
        self.assertEqual(orders.best_chance(4, 1), (11, 24))
        self.assertEqual(orders.best_chance(9, 0), (1, 9))
        for many, skipped in ((3, -1), (3, 3), (3, 4), (1, 1), (0, 0), (-1, -2), (0, -1)):
            self.assertRaises(BadSize, orders.best_chance, many, skipped)

    def test_best_skipped(self):
        for many in range(1, 31):
            chances = [Fraction(*orders.best_chance(many, skipped)) for skipped in range(many)]
            self.assertEqual(orders.best_skipped(many), chances.index(max(chances)))
        self.assertEqual([orders.best_skipped(many) for many in (1, 2, 3, 5, 100)], [0, 0, 1, 2, 37])

    def test_longest_rise(self):
        for long in range(6):
            for row in product(range(3), repeat=long):
                self.assertEqual(orders.longest_rise(row), rise_of(row))
        for row in all_orders(6):
            self.assertEqual(orders.longest_rise(list(row)), rise_of(row))
        self.assertEqual(orders.longest_rise([]), 0)
        self.assertEqual(orders.longest_rise([4, 4, 4]), 1)
        self.assertEqual(orders.longest_rise([-5, 7, -1, 0, 7]), 4)

    def test_longest_rise_changes_nothing(self):
        row = [3, 1, 2]
        orders.longest_rise(row)
        self.assertEqual(row, [3, 1, 2])

    def test_rise_spread(self):
        for many in MANY:
            self.assertEqual(orders.rise_spread(many).shown(), counted([rise_of(row) for row in all_orders(many)]))
        self.assertEqual(orders.rise_spread(7).whole, 5040)
        for many in (8, 9, 100):
            self.assertRaises(BadSize, orders.rise_spread, many)

    def test_same_ring(self):
        for many in range(2, 6):
            for one, other in permutations(range(many), 2):
                self.assertEqual(orders.same_ring(many), share([other in ring_of(order, one)
                                                                for order in all_orders(many)]))
        for many in (1, 0, -2):
            self.assertRaises(BadSize, orders.same_ring, many)

    def test_all_found(self):
        for many, tries in product(MANY, range(8)):
            cases = [all(place in [self.looked(order, place, step) for step in range(1, tries + 1)]
                         for place in range(many)) for order in all_orders(many)]
            self.assertEqual(orders.all_found(many, tries), share(cases))
        left = sum(Fraction(1, ring) for ring in range(51, 101))
        self.assertEqual(orders.all_found(100, 50), small(1 - left))
        self.assertEqual(orders.all_found(4, 9), (1, 1))

    def looked(self, order, place, step):
        """Return what one finds at a step of going its ring on, at its own place first."""
        for _ in range(step):
            place = order[place]
        return place

    def test_all_found_refused(self):
        for many, tries in ((0, 1), (-1, 1), (3, -1), (0, -1)):
            self.assertRaises(BadSize, orders.all_found, many, tries)
