"""Tests of luckwright.parts: point [1], exact parts, made small, and what is refused."""

import unittest
from fractions import Fraction
from itertools import product as all_rows
from math import gcd

from luckwright import parts
from luckwright.errors import BadPart

# Parts as they may be handed in: small or not, of either sign, and noughts of several lows.
ROWS = [(top, low) for top in range(-6, 7) for low in (1, 2, 3, 4, 6, -1, -2, -4)]
SOME = [(0, 1), (0, 5), (1, 1), (4, 4), (1, 2), (2, 4), (-2, 4), (2, -4), (-3, -6), (7, 3), (-14, 6), (5, 1)]


def small(value):
    """Return a Fraction as a part: Fractions are small, with their lows above nought."""
    return value.numerator, value.denominator


class PartTest(unittest.TestCase):
    def is_part(self, found, value):
        """Hold an answer against a Fraction, and its kind against a tuple of two whole numbers."""
        self.assertIs(type(found), tuple)
        self.assertEqual([type(number) for number in found], [int, int])
        self.assertEqual(found, small(value))

    def test_fixed_values(self):
        self.assertEqual(parts.NOUGHT, (0, 1))
        self.assertEqual(parts.ONE, (1, 1))

    def test_shared(self):
        for one, other in all_rows(range(-20, 21), repeat=2):
            if (one, other) != (0, 0):
                found = parts.shared(one, other)
                self.assertTrue(one % found == 0 and other % found == 0)
                self.assertEqual(found, gcd(one, other))
        self.assertEqual(parts.shared(12, 18), 6)
        self.assertEqual(parts.shared(0, -7), 7)

    def test_part_is_made_small_with_its_low_above_nought(self):
        for top, low in ROWS:
            self.is_part(parts.part(top, low), Fraction(top, low))
        self.assertEqual(parts.part(6, -4), (-3, 2))
        self.assertEqual(parts.part(-6, -4), (3, 2))
        self.assertEqual(parts.part(0, -9), (0, 1))

    def test_low_may_be_left_out(self):
        self.assertEqual(parts.part(7), (7, 1))
        self.assertEqual(parts.part(-7), (-7, 1))
        self.assertEqual(parts.part(0), (0, 1))
        self.assertEqual(parts.part(top=2, low=6), (1, 3))

    def test_part_by_nought(self):
        for top in (-1, 0, 1):
            self.assertRaises(BadPart, parts.part, top, 0)

    def test_sums_differences_and_products(self):
        for one, other in all_rows(SOME, repeat=2):
            first, second = Fraction(*one), Fraction(*other)
            self.is_part(parts.plus(one, other), first + second)
            self.is_part(parts.minus(one, other), first - second)
            self.is_part(parts.times(one, other), first * second)

    def test_over(self):
        for one, other in all_rows(SOME, repeat=2):
            if other[0] == 0:
                self.assertRaises(BadPart, parts.over, one, other)
            else:
                self.is_part(parts.over(one, other), Fraction(*one) / Fraction(*other))

    def test_order(self):
        for one, other in all_rows(SOME, repeat=2):
            first, second = Fraction(*one), Fraction(*other)
            self.assertIs(parts.is_less(one, other), first < second)
            self.is_part(parts.lesser(one, other), min(first, second))
            self.is_part(parts.greater(one, other), max(first, second))

    def test_total_and_product(self):
        self.assertEqual(parts.total([]), (0, 1))
        self.assertEqual(parts.product([]), (1, 1))
        self.assertEqual(parts.total([(2, 4)]), (1, 2))
        self.assertEqual(parts.product([(2, 4)]), (1, 2))
        for rows in all_rows(SOME, repeat=3):
            first, second, third = [Fraction(*one) for one in rows]
            self.is_part(parts.total(rows), first + second + third)
            self.is_part(parts.product(list(rows)), first * second * third)

    def test_raised(self):
        for number, count in all_rows(range(-5, 6), range(20)):
            self.assertEqual(parts.raised(number, count), number ** count)
        self.assertEqual(parts.raised(0, 0), 1)
        self.assertEqual(parts.raised(3, 300), 3 ** 300)
        for number in (-2, 0, 1, 2):
            self.assertRaises(BadPart, parts.raised, number, -1)

    def test_power(self):
        for one, count in all_rows(SOME, range(8)):
            self.is_part(parts.power(one, count), Fraction(*one) ** count)
        self.assertEqual(parts.power((0, 3), 0), (1, 1))
        for one in ((0, 1), (1, 1), (1, 2)):
            self.assertRaises(BadPart, parts.power, one, -1)

    def test_chances(self):
        for top, low in ROWS:
            if 0 <= Fraction(top, low) <= 1:
                self.is_part(parts.check_chance((top, low)), Fraction(top, low))
            else:
                self.assertRaises(BadPart, parts.check_chance, (top, low))
        self.assertEqual(parts.check_chance((0, 4)), (0, 1))
        self.assertEqual(parts.check_chance((4, 4)), (1, 1))
        self.assertRaises(BadPart, parts.check_chance, (5, 4))
        self.assertRaises(BadPart, parts.check_chance, (-1, 4))
        self.assertRaises(BadPart, parts.check_chance, (0, 0))

    def test_other_way(self):
        for one in SOME:
            self.is_part(parts.other_way(one), 1 - Fraction(*one))

    def test_least_and_greatest_of_some(self):
        for rows in all_rows(SOME, repeat=2):
            self.is_part(parts.least_of(list(rows)), min(Fraction(*one) for one in rows))
            self.is_part(parts.greatest_of(rows), max(Fraction(*one) for one in rows))
        self.assertEqual(parts.least_of([(3, 4), (2, 8), (1, 2), (5, 20)]), (1, 4))
        self.assertEqual(parts.greatest_of(((2, 4), (1, 3), (3, 4), (6, 8))), (3, 4))
        self.assertEqual(parts.least_of([(2, 4)]), (1, 2))
        self.assertEqual(parts.greatest_of([(2, 4)]), (1, 2))

    def test_least_and_greatest_of_none(self):
        for none in ([], ()):
            self.assertRaises(BadPart, parts.least_of, none)
            self.assertRaises(BadPart, parts.greatest_of, none)

    def test_told(self):
        rows = {(3, 1): "3", (0, 1): "0", (-4, 1): "-4", (1, 2): "1/2", (-1, 2): "-1/2", (22, 7): "22/7"}
        for one, text in rows.items():
            self.assertEqual(parts.told(one), text)
        self.assertEqual(parts.told((2, 4)), "1/2")
        self.assertEqual(parts.told((4, -2)), "-2")

    def test_what_is_refused_changes_nothing(self):
        rows = [(1, 2), (3, 0)]
        self.assertRaises(BadPart, parts.total, rows)
        self.assertRaises(BadPart, parts.product, rows)
        self.assertEqual(rows, [(1, 2), (3, 0)])
