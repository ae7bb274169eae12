"""Tests of luckwright.couples: point [15], held against trying all lots and all tables in equal shares."""

import unittest
from fractions import Fraction
from itertools import combinations, product
from math import lcm

from luckwright import couples
from luckwright.dice import die, read
from luckwright.errors import BadPaper
from luckwright.spreads import Spread, added, even, sure

O, I, H, T, Q = (0, 1), (1, 1), (1, 2), (1, 3), (1, 4)
SPREADS = (sure(0), sure(3), even([0, 1]), even([1, 3]), Spread({0: 1, 1: 3}), Spread({-2: 1, 1: 1, 5: 2}),
           even([0, 3, 4]), Spread({1: 3, 2: 2, 3: 1}), Spread({-2: 1, 0: 2, 3: 3}))
PAIRS = list(product(SPREADS, repeat=2))


def small(value):
    """Return a Fraction as a part."""
    return Fraction(value).numerator, Fraction(value).denominator


def chance(spread, lot):
    """Return the chance of a lot of numbers, as a Fraction."""
    return sum((Fraction(*spread.chance(value)) for value in lot), Fraction(0))


def numbers_of(one, other):
    """Return the numbers of either spread, in order."""
    return sorted({*one.numbers(), *other.numbers()})


def all_lots(one, other):
    """Return all lots of the numbers of two spreads."""
    numbers = numbers_of(one, other)
    return [lot for few in range(len(numbers) + 1) for lot in combinations(numbers, few)]


def split(shares, rooms):
    """Return all rows of counts that add up to some shares, none above its room."""
    if not rooms:
        return [()] if shares == 0 else []
    return [(first, *row) for first in range(min(shares, rooms[0]) + 1) for row in split(shares - first, rooms[1:])]


def all_tables(one, other):
    """Return all tables of two spreads in equal shares, as small as both spreads ask for, without noughts."""
    whole = lcm(one.whole, other.whole)
    tables = [({}, [other.weights[value] * whole // other.whole for value in other.numbers()])]
    for value in one.numbers():
        shares = one.weights[value] * whole // one.whole
        tables = [({**table, **{(value, to): few for to, few in zip(other.numbers(), row) if few}},
                   [room - few for room, few in zip(rooms, row)])
                  for table, rooms in tables for row in split(shares, rooms)]
    return [{key: small(Fraction(few, whole)) for key, few in table.items()} for table, rooms in tables]


def unlike(table):
    """Return the chance of unlike numbers by a table, as a Fraction."""
    return sum((Fraction(*share) for (one, other), share in table.items() if one != other), Fraction(0))


def steps(table):
    """Return the mean of steps by a table, as a Fraction."""
    return sum((abs(one - other) * Fraction(*share) for (one, other), share in table.items()), Fraction(0))


def as_told(table):
    """Return a table without noughts, as a plain dict."""
    return {key: share for key, share in table.items() if share[0] != 0}


class ApartTest(unittest.TestCase):
    def test_by_trying_all_lots(self):
        for one, other in PAIRS:
            far = {lot: chance(one, lot) - chance(other, lot) for lot in all_lots(one, other)}
            self.assertEqual(couples.apart(one, other), small(max(far.values())))
            lot = couples.lot_apart(one, other)
            self.assertIs(type(lot), tuple)
            self.assertEqual(far[lot], max(far.values()))
            self.assertEqual(lot, min((lot for lot in far if far[lot] == max(far.values())), key=len))

    def test_examples(self):
        self.assertEqual(couples.chances_of(Spread({3: 1, -1: 3})), {-1: (3, 4), 3: Q})
        self.assertEqual(list(couples.chances_of(Spread({3: 1, -1: 3}))), [-1, 3])
        self.assertEqual(couples.apart(die(6), die(6)), O)
        self.assertEqual(couples.lot_apart(die(6), die(6)), ())
        self.assertEqual(couples.apart(die(4), die(6)), T)
        self.assertEqual(couples.lot_apart(die(4), die(6)), (1, 2, 3, 4))
        self.assertEqual(couples.lot_apart(die(6), die(4)), (5, 6))
        self.assertEqual(couples.apart(sure(1), sure(2)), I)

    def test_share_of(self):
        for one, other in PAIRS:
            shares = [chance(other, [value]) / chance(one, [value]) for value in one.numbers()]
            self.assertEqual(couples.share_of(one, other), small(min(shares)))
        self.assertEqual(couples.share_of(die(6), die(6)), I)
        self.assertEqual(couples.share_of(die(4), die(6)), (2, 3))
        self.assertEqual(couples.share_of(die(6), die(4)), O)


class TableTest(unittest.TestCase):
    def test_alike_tables(self):
        for one, other in PAIRS:
            table = couples.alike_table(one, other)
            self.assertIn(as_told(table), all_tables(one, other))
            self.assertEqual(couples.check_table(one, other, table), couples.apart(one, other))
            self.assertEqual(unlike(table), min(unlike(row) for row in all_tables(one, other)))
            for value in numbers_of(one, other):
                alike = min(chance(one, [value]), chance(other, [value]))
                self.assertEqual(table.get((value, value), O), small(alike))
            # The rest is filled from the least on, so it rises together.
            rest = sorted(key for key in as_told(table) if key[0] != key[1])
            self.assertEqual([key[1] for key in rest], sorted(key[1] for key in rest))

    def test_tables_in_order(self):
        for one, other in PAIRS:
            table = couples.in_order_table(one, other)
            self.assertIn(table, all_tables(one, other))
            keys = sorted(table)
            self.assertEqual([key[1] for key in keys], sorted(key[1] for key in keys))
            rising = [row for row in all_tables(one, other)
                      if [key[1] for key in sorted(row)] == sorted(key[1] for key in row)]
            self.assertEqual(rising, [table])

    def test_examples(self):
        self.assertEqual(couples.alike_table(even([1, 2]), even([2, 3])), {(2, 2): H, (1, 3): H})
        self.assertEqual(couples.in_order_table(even([1, 2]), even([2, 3])), {(1, 2): H, (2, 3): H})
        self.assertEqual(couples.alike_table(sure(1), sure(1)), {(1, 1): I})
        self.assertEqual(couples.in_order_table(sure(1), even([4, 5])), {(1, 4): H, (1, 5): H})

    def test_filled(self):
        left, right = [(5, H), (1, (1, 6)), (2, T)], [(0, Q), (9, (3, 4))]
        found = couples.filled(left, right)
        self.assertEqual(found, {(5, 0): Q, (5, 9): Q, (1, 9): (1, 6), (2, 9): T})
        self.assertEqual((left, right), ([(5, H), (1, (1, 6)), (2, T)], [(0, Q), (9, (3, 4))]))
        self.assertEqual(couples.filled([], []), {})
        self.assertEqual(as_told(couples.filled(((1, O), (2, I)), ((3, O), (4, I)))), {(2, 4): I})
        self.assertEqual(couples.filled([(1, H), (1, H)], [(2, Q), (2, (3, 4))]), {(1, 2): I})
        self.assertEqual(couples.filled([(1, T)], [(2, T)]), {(1, 2): T})

    def test_check_table(self):
        for one, other in PAIRS[::5]:
            for table in all_tables(one, other):
                self.assertEqual(couples.check_table(one, other, table), small(unlike(table)))
                self.assertEqual(couples.check_table(one, other, {**table, (77, 78): O}), small(unlike(table)))
                for further in all_tables(one, other)[:1]:
                    key = next(iter(further))
                    self.assertRaises(BadPaper, couples.check_table, one, other, {**table, (key[0], 77): T})

    def test_tables_that_are_refused(self):
        one, other = even([0, 1]), even([1, 2])
        for table in ({}, {(0, 1): I}, {(0, 1): H}, {(0, 1): H, (1, 2): T}, {(1, 0): H, (2, 1): H},
                      {(0, 1): H, (1, 1): H}, {(0, 1): (3, 4), (1, 2): (3, 4), (0, 2): (-1, 4), (1, 1): (-1, 4)},
                      {(0, 1): H, (1, 2): H, (3, 3): H}, {(0, 1): H, (1, 2): H, (1, 3): (-1, 4), (1, 4): Q}):
            self.assertRaises(BadPaper, couples.check_table, one, other, table)
            self.assertRaises(BadPaper, couples.check_above, one, other, table)
            self.assertRaises(BadPaper, couples.check_carried, one, other, table, couples.heights_for(one, other))
            turned = {(second, first): chance for (first, second), chance in table.items()}
            self.assertRaises(BadPaper, couples.check_above, other, one, turned)

    def test_without_nought(self):
        rows = {1: O, 2: H, (3, 4): (0, 7), "a": (-1, 2)}
        self.assertEqual(couples.without_nought(rows), {2: H, "a": (-1, 2)})
        self.assertEqual(len(rows), 4)


class AboveTest(unittest.TestCase):
    def test_above_just_where_a_table_shows_it(self):
        for one, other in PAIRS:
            values = range(-3, 7)
            above = all(chance(one, [low for low in one.numbers() if low <= value])
                        <= chance(other, [low for low in other.numbers() if low <= value]) for value in values)
            self.assertIs(couples.is_above(one, other), above)
            shown = [table for table in all_tables(one, other) if all(first >= second for first, second in table)]
            self.assertEqual(bool(shown), above)
            for table in all_tables(one, other):
                if table in shown:
                    self.assertIs(couples.check_above(one, other, table), True)
                    self.assertIs(couples.check_above(one, other, {**table, (0, 9): O}), True)
                else:
                    self.assertRaises(BadPaper, couples.check_above, one, other, table)
            if above:
                self.assertIs(couples.check_above(one, other, couples.in_order_table(one, other)), True)

    def test_dice(self):
        self.assertIs(couples.is_above(read("4d6b3"), read("3d6")), True)
        self.assertIs(couples.is_above(read("3d6"), read("4d6b3")), False)
        self.assertIs(couples.is_above(die(6), die(6)), True)
        self.assertIs(couples.is_above(read("2d4"), die(6)), True)
        self.assertIs(couples.is_above(sure(3), die(6)), False)
        self.assertIs(couples.is_above(die(6), sure(3)), False)


class CarriedTest(unittest.TestCase):
    def test_by_trying_all_tables(self):
        for one, other in PAIRS:
            tables = all_tables(one, other)
            found = couples.carried(one, other)
            self.assertEqual(found, small(min(steps(table) for table in tables)))
            heights = couples.heights_for(one, other)
            self.assertEqual(couples.check_carried(one, other, couples.in_order_table(one, other), heights), found)
            for table in tables:
                self.assertEqual(couples.steps_by(table), small(steps(table)))
                if couples.steps_by(table) == found:
                    self.assertEqual(couples.check_carried(one, other, table, heights), found)
                else:
                    self.assertRaises(BadPaper, couples.check_carried, one, other, table, heights)

    def test_heights(self):
        for one, other in PAIRS:
            heights = couples.heights_for(one, other)
            numbers = numbers_of(one, other)
            self.assertTrue(all(value in heights for value in numbers))
            self.assertTrue(all(height == small(Fraction(*height)) for height in heights.values()))
            for value, further in combinations(numbers, 2):
                self.assertLessEqual(abs(Fraction(*heights[value]) - Fraction(*heights[further])), further - value)
            shown = Fraction(*couples.mean_of(one, heights)) - Fraction(*couples.mean_of(other, heights))
            self.assertEqual(small(shown), couples.carried(one, other))

    def test_any_heights_that_show_it_are_taken_and_no_others(self):
        one, other = even([0, 4]), even([1, 2])
        table = couples.in_order_table(one, other)
        self.assertEqual(table, {(0, 1): H, (4, 2): H})
        least = (3, 2)
        self.assertEqual(couples.carried(one, other), least)
        for rows in product(range(-4, 5), repeat=3):
            heights = {0: O, **{value: (height, 2) for value, height in zip((1, 2, 4), rows)}}
            values = {value: Fraction(*height) for value, height in heights.items()}
            flat = all(abs(values[a] - values[b]) <= b - a for a, b in ((0, 1), (1, 2), (2, 4)))
            shown = (values[0] + values[4] - values[1] - values[2]) / 2
            if flat and shown == Fraction(*least):
                self.assertEqual(couples.check_carried(one, other, table, heights), least)
            else:
                self.assertRaises(BadPaper, couples.check_carried, one, other, table, heights)

    def test_heights_that_are_refused(self):
        one, other = even([0, 4]), even([1, 2])
        table, heights = couples.in_order_table(one, other), couples.heights_for(one, other)
        for value in (0, 1, 2, 4):
            left = {number: height for number, height in heights.items() if number != value}
            self.assertRaises(BadPaper, couples.check_carried, one, other, table, left)
        doubled = {number: (2 * height[0], height[1]) for number, height in heights.items()}
        self.assertRaises(BadPaper, couples.check_carried, one, other, table, doubled)
        self.assertRaises(BadPaper, couples.check_carried, one, other, table, {})
        self.assertRaises(BadPaper, couples.check_carried, one, other, {(0, 2): H, (4, 1): H}, heights)
        # Heights of further numbers must be no steeper, either.
        self.assertEqual(couples.check_carried(one, other, table, {**heights, 5: heights[4]}), (3, 2))
        self.assertRaises(BadPaper, couples.check_carried, one, other, table, {**heights, 3: (99, 1)})
        moved = {number: small(Fraction(*height) + Fraction(7, 3)) for number, height in heights.items()}
        self.assertEqual(couples.check_carried(one, other, table, moved), (3, 2))

    def test_examples(self):
        self.assertEqual(couples.carried(sure(3), sure(-4)), (7, 1))
        self.assertEqual(couples.carried(die(6), die(6)), O)
        self.assertEqual(couples.carried(die(6), added(die(6), sure(5))), (5, 1))
        self.assertEqual(couples.mean_of(even([1, 2]), {1: (1, 3), 2: (1, 6), 3: I}), Q)
        self.assertEqual(couples.steps_by({(1, 4): H, (4, 1): T, (2, 2): (1, 6)}), (5, 2))
        self.assertEqual(couples.steps_by({}), O)
