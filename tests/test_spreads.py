"""Tests of luckwright.spreads: points [3] and [21], held against counting all cases, each weight so often."""

import unittest
from fractions import Fraction
from itertools import product
from math import gcd

from luckwright.errors import BadPart, BadSpread, NoChance
from luckwright.spreads import (Spread, added, added_often, beats, even, from_chances, greatest, least, mixed, sure,
                                taken_away, together)

TABLES = (
    {0: 1},
    {-7: 3},
    {1: 1, 2: 1, 3: 1},
    {3: 2, -1: 1, 0: 4},
    {-5: 3, -2: 2, 4: 1},
    {10: 1, -10: 1},
    {2: 6, 5: 4, 9: 10},
    {1: 5, 2: 1, 3: 5, 4: 1},
)


def cases(table):
    """Return all cases of a table, in order: each number as often as its weight."""
    return [value for value in sorted(table) for _ in range(table[value])]


def small(value):
    """Return a Fraction as a part."""
    return value.numerator, value.denominator


def share(rows):
    """Return the part of rows that are True."""
    return small(Fraction(sum(1 for row in rows if row), len(rows)))


class SpreadsTest(unittest.TestCase):
    def holds(self, spread, rows):
        """Hold a spread against all cases, and its form against points [3] and [21]."""
        self.assertIsInstance(spread, Spread)
        counts = {value: rows.count(value) for value in sorted(set(rows))}
        size = gcd(*counts.values())
        weights = {value: count // size for value, count in counts.items()}
        self.assertIs(type(spread.weights), dict)
        self.assertEqual(list(spread.weights.items()), list(weights.items()))
        self.assertEqual(spread.whole, sum(weights.values()))

    def all_pairs(self):
        """Return (spread, its cases) of each two of the tables."""
        rows = [(Spread(table), cases(table)) for table in TABLES]
        return [(*one, *other) for one, other in product(rows, repeat=2)]


class SpreadTest(SpreadsTest):
    def test_weights_are_made_small_and_rise(self):
        for table in TABLES:
            self.holds(Spread(table), cases(table))
        self.assertEqual(list(Spread({5: 4, -2: 6, 0: 2}).weights.items()), [(-2, 3), (0, 1), (5, 2)])
        self.assertEqual(Spread({5: 4, -2: 6, 0: 2}).whole, 6)

    def test_weights_of_nought_are_left_out(self):
        spread = Spread({1: 0, 2: 6, 3: 0, -4: 4})
        self.assertEqual(spread.weights, {-4: 2, 2: 3})
        self.assertEqual(spread.numbers(), (-4, 2))

    def test_no_weights_or_one_below_nought(self):
        for table in ({}, {1: 0}, {0: 0, 5: 0}, {1: -1}, {1: 5, 2: -1}, {1: -1, 2: 0}, {-3: 1, 0: -2, 4: 2}):
            before = dict(table)
            self.assertRaises(BadSpread, Spread, table)
            self.assertEqual(table, before)

    def test_the_table_handed_in_is_neither_changed_nor_kept(self):
        table = {3: 2, 1: 4, 2: 0}
        spread = Spread(table)
        self.assertEqual(list(table.items()), [(3, 2), (1, 4), (2, 0)])
        table[1] = 100
        self.assertEqual(spread.weights, {1: 2, 3: 1})

    def test_numbers_and_shown(self):
        for table in TABLES:
            spread = Spread(table)
            self.assertEqual(spread.numbers(), tuple(sorted(table)))
            self.assertEqual(spread.shown(), (tuple(sorted(spread.weights.items())), spread.whole))
        self.assertEqual(Spread({3: 4, 1: 2, 2: 0}).shown(), (((1, 1), (3, 2)), 3))
        self.assertIs(type(sure(1).numbers()), tuple)
        self.assertIs(type(sure(1).shown()), tuple)
        self.assertIs(type(sure(1).shown()[0]), tuple)

    def test_chances(self):
        for table in TABLES:
            spread, rows = Spread(table), cases(table)
            for value in range(-12, 13):
                self.assertEqual(spread.chance(value), share([row == value for row in rows]))
                self.assertEqual(spread.up_to(value), share([row <= value for row in rows]))
            self.assertEqual(spread.chance_of(lambda value: value % 2 == 0), share([row % 2 == 0 for row in rows]))
            self.assertEqual(spread.chance_of(lambda value: True), (1, 1))
            self.assertEqual(spread.chance_of(lambda value: False), (0, 1))

    def test_means(self):
        for table in TABLES:
            spread, rows = Spread(table), cases(table)
            mean = Fraction(sum(rows), len(rows))
            self.assertEqual(spread.mean(), small(mean))
            for count in range(7):
                self.assertEqual(spread.moment(count), small(Fraction(sum(row ** count for row in rows), len(rows))))
            self.assertEqual(spread.scatter(), small(sum((row - mean) ** 2 for row in rows) / len(rows)))
            self.assertRaises(BadSpread, spread.moment, -1)
        self.assertEqual(sure(0).moment(0), (1, 1))
        self.assertEqual(even([1, 2]).scatter(), (1, 4))

    def test_middle(self):
        for table in TABLES:
            rows = cases(table)
            half = [value for value in rows if 2 * sum(row <= value for row in rows) >= len(rows)]
            self.assertEqual(Spread(table).middle(), min(half))
        self.assertEqual(even([1, 2, 3, 4]).middle(), 2)
        self.assertEqual(even([1, 2, 3, 4, 5]).middle(), 3)
        self.assertEqual(Spread({-3: 1, 8: 1}).middle(), -3)
        self.assertEqual(Spread({-3: 49, 8: 51}).middle(), 8)

    def test_middle_of_weights_that_are_gone(self):
        spread = sure(1)
        spread.weights = {}
        self.assertRaises(BadSpread, spread.middle)

    def test_likeliest(self):
        for table in TABLES:
            rows = cases(table)
            self.assertEqual(Spread(table).likeliest(), max(sorted(table), key=rows.count))
        self.assertEqual(Spread({5: 2, 1: 1, 3: 2, 4: 2}).likeliest(), 3)
        self.assertEqual(Spread({-5: 1, 1: 2, -9: 1}).likeliest(), 1)
        self.assertEqual(even([4, -6]).likeliest(), -6)

    def test_given(self):
        for table in TABLES:
            for test in (lambda value: value > 0, lambda value: value % 2 == 0, lambda value: value < 100):
                rows = [row for row in cases(table) if test(row)]
                if rows:
                    self.holds(Spread(table).given(test), rows)
                else:
                    self.assertRaises(NoChance, Spread(table).given, test)
        self.assertEqual(Spread({1: 2, 2: 4, 3: 1}).given(lambda value: value < 3).weights, {1: 1, 2: 2})

    def test_through(self):
        for table in TABLES:
            for change in (lambda value: -value, lambda value: value * value, lambda value: 4, lambda value: value % 3):
                self.holds(Spread(table).through(change), [change(row) for row in cases(table)])

    def test_no_deed_changes_a_spread(self):
        spread = Spread({3: 2, 1: 4})
        spread.through(lambda value: -value)
        spread.given(lambda value: value > 1)
        self.assertRaises(NoChance, spread.given, lambda value: value > 3)
        added_often(spread, 3)
        taken_away(added(spread, spread), spread)
        self.assertEqual(spread.shown(), (((1, 2), (3, 1)), 3))


class PutTogetherTest(SpreadsTest):
    def test_sure(self):
        for value in (-3, 0, 12):
            self.holds(sure(value), [value])

    def test_even(self):
        for values in ([5], [3, 1, 2], (4, 4, -1), [0, 0, 0], [2, 2, -7, -7], range(1, 7)):
            self.holds(even(list(values)), list(values))
        self.assertEqual(even([2, 2, -7, -7]).weights, {-7: 1, 2: 1})
        self.assertRaises(BadSpread, even, [])
        self.assertRaises(BadSpread, even, ())

    def test_two_numbers(self):
        for one, rows, other, others in self.all_pairs():
            pairs = list(product(rows, others))
            self.holds(together(one, other, lambda a, b: a * 7 - b), [a * 7 - b for a, b in pairs])
            self.holds(together(one, other, lambda a, b: 0), [0])
            self.holds(added(one, other), [a + b for a, b in pairs])
            self.holds(greatest(one, other), [max(pair) for pair in pairs])
            self.holds(least(one, other), [min(pair) for pair in pairs])

    def test_beats(self):
        for one, rows, other, others in self.all_pairs():
            pairs = list(product(rows, others))
            found = beats(one, other)
            self.assertIs(type(found), tuple)
            self.assertEqual(found, (share([a > b for a, b in pairs]), share([a == b for a, b in pairs]),
                                     share([a < b for a, b in pairs])))

    def test_added_often(self):
        for table in ({0: 1}, {1: 1, 2: 1}, {-3: 2, 4: 1}, {0: 1, 1: 1, 5: 2}):
            for many in range(6):
                self.holds(added_often(Spread(table), many), [sum(row) for row in product(cases(table), repeat=many)])
            self.assertRaises(BadSpread, added_often, Spread(table), -1)
        self.assertEqual(added_often(even([0, 1]), 100).chance(0), (1, 2 ** 100))

    def test_mixed(self):
        tables = ({1: 1, 2: 2}, {1: 1, 5: 4}, {-3: 2})
        for weights in product(range(4), repeat=3):
            spreads = [Spread(table) for table in tables]
            if sum(weights) == 0:
                self.assertRaises(BadSpread, mixed, spreads, weights)
                continue
            rows = [value for table, weight in zip(tables, weights)
                    for value in cases(table) * (weight * 30 // sum(table.values()))]
            self.holds(mixed(spreads, list(weights)), rows)

    def test_mixed_refuses(self):
        one = even([1, 2])
        for spreads, weights in (([], []), ((), ()), ([one], []), ([], [1]), ([one], [1, 1]), ([one, one], [1]),
                                 ([one, one], [2, -1]), ([one], [-1]), ([one, one], [0, 0])):
            self.assertRaises(BadSpread, mixed, spreads, weights)

    def test_from_chances(self):
        found = from_chances({5: (1, 3), -2: (1, 6), 0: (1, 2), 9: (0, 1)})
        self.assertEqual(found.shown(), (((-2, 1), (0, 3), (5, 2)), 6))
        self.assertEqual(from_chances({3: (2, 4), 1: (3, 6)}).shown(), (((1, 1), (3, 1)), 2))
        self.assertEqual(from_chances({3: (-2, -4), 1: (4, 8)}).shown(), (((1, 1), (3, 1)), 2))
        self.assertEqual(from_chances({-4: (1, 1)}).shown(), (((-4, 1),), 1))
        for table in TABLES:
            spread = Spread(table)
            rows = {value: spread.chance(value) for value in table}
            self.assertEqual(from_chances(rows).shown(), spread.shown())

    def test_from_chances_refuses(self):
        for rows in ({}, {1: (1, 2)}, {1: (1, 2), 2: (2, 3)}, {1: (3, 2), 2: (-1, 2)}, {1: (0, 1)}, {1: (2, 1)}):
            self.assertRaises(BadSpread, from_chances, rows)
        self.assertRaises(BadPart, from_chances, {1: (1, 0)})


class TakenAwayTest(SpreadsTest):
    def test_turned_back_from_added(self):
        for one, rows, other, others in self.all_pairs():
            self.assertEqual(taken_away(added(one, other), one).shown(), other.shown())
            self.assertEqual(taken_away(added(one, other), other).shown(), one.shown())
        die = even([1, 2, 3, 4, 5, 6])
        self.assertEqual(taken_away(added_often(die, 5), added_often(die, 2)).shown(), added_often(die, 3).shown())

    def test_all_small_wholes(self):
        """Each whole of small weights: taken away is just what gives it again, and refused where nothing does."""
        ones = [Spread({0: 1, 1: 1}), Spread({-1: 1, 1: 2}), Spread({2: 1})]
        numbers = range(-1, 4)
        for one in ones:
            for weights in product(range(4), repeat=len(numbers)):
                if sum(weights) > 0:
                    whole = Spread(dict(zip(numbers, weights)))
                    self.is_only_one(whole, one)

    def is_only_one(self, whole, one):
        """Hold taken_away against dividing the whole's chances by those of one."""
        quotient = self.divided(whole, one)
        if quotient is None:
            self.assertRaises(NoChance, taken_away, whole, one)
        else:
            found = taken_away(whole, one)
            self.assertEqual({value: found.chance(value) for value in found.numbers()}, quotient)
            self.assertEqual(added(found, one).shown(), whole.shown())

    def divided(self, whole, one):
        """Return chances that one's give a whole's by, None for none, from the greatest number down."""
        left = {value: Fraction(*whole.chance(value)) for value in whole.numbers()}
        top = max(one.numbers())
        found = {}
        for value in range(whole.numbers()[-1], whole.numbers()[0] - 10, -1):
            chance = left.get(value, 0) / Fraction(*one.chance(top))
            if chance == 0:
                continue
            found[value - top] = small(chance)
            for number in one.numbers():
                at = value - top + number
                left[at] = left.get(at, 0) - chance * Fraction(*one.chance(number))
        is_whole = all(chance == 0 for chance in left.values())
        return found if is_whole and min(chance[0] for chance in found.values()) >= 0 else None

    def test_refused_where_there_is_none(self):
        coin = even([0, 1])
        for whole in (sure(0), sure(5), even([0, 2]), even([0, 1, 2]), Spread({0: 1, 1: 3}), Spread({0: 3, 1: 1}),
                      Spread({0: 1, 1: 1, 3: 1, 4: 2}), even([0, 1, 10])):
            before = whole.shown()
            self.assertRaises(NoChance, taken_away, whole, coin)
            self.assertEqual(whole.shown(), before)
            self.assertEqual(coin.shown(), (((0, 1), (1, 1)), 2))
        # Divided it would be 1, -1, 1: added to the coin it gives this whole, but no chance is below nought.
        self.assertRaises(NoChance, taken_away, even([0, 3]), coin)
