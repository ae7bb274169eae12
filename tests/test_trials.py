"""Tests of luckwright.trials: point [9], held against counting all orders, lots and tables."""

import unittest
from fractions import Fraction
from itertools import combinations, permutations, product
from math import factorial

from luckwright import trials
from luckwright.errors import BadPart, BadSize
from luckwright.spreads import Spread, even, sure

CHANCES = ((0, 1), (1, 3), (1, 2), (3, 4), (1, 1))
LOTS = ([1], [0, 0], [1, 2], [3, -1], [5, 5, 5], [1, 2, 4], (7, 1), [2, 2, 3], [-4, 0, 9], [1, 1, 2, 6])


def small(value):
    """Return a Fraction as a part."""
    return Fraction(value).numerator, Fraction(value).denominator


def counted(rows):
    """Return the spread of numbers that are all cases, each alike."""
    return Spread({value: rows.count(value) for value in rows}).shown()


def share(rows):
    """Return the part of all cases that are True."""
    return small(Fraction(sum(1 for row in rows if row), len(rows)))


def lots_like(one, other):
    """Return the lots, as great as the first of two, of all their numbers."""
    return list(combinations([*one, *other], len(one)))


def as_far(one, other):
    """Return the part of lots whose sums are as far from the mean of all such sums or further."""
    sums = [sum(lot) for lot in lots_like(one, other)]
    mean = Fraction(sum(sums), len(sums))
    return share([abs(score - mean) >= abs(sum(one) - mean) for score in sums])


def shared_places(values):
    """Return twice the places of numbers in order, the mean of theirs for alike ones."""
    places = {value: [place for place, one in enumerate(sorted(values), 1) if one == value] for value in values}
    return tuple(Fraction(2 * sum(places[value]), len(places[value])) for value in values)


def runs_in(row):
    """Return how many runs a row has: one more than there are changes."""
    return sum(1 for one, other in zip(row, row[1:]) if one != other) + (1 if len(row) > 0 else 0)


class YesNoTest(unittest.TestCase):
    def test_yes_no(self):
        for many, yes in product(range(6), CHANCES):
            found = trials.yes_no(many, yes)
            chance = Fraction(*yes)
            for count in range(-1, many + 2):
                whole = sum(chance ** count * (1 - chance) ** (many - count)
                            for row in product((0, 1), repeat=many) if sum(row) == count)
                self.assertEqual(found.chance(count), small(whole))
        self.assertEqual(trials.yes_no(2, (2, 4)).weights, {0: 1, 1: 2, 2: 1})

    def test_yes_no_refused(self):
        self.assertRaises(BadSize, trials.yes_no, -1, (1, 2))
        for yes in ((-1, 2), (3, 2), (1, 0)):
            self.assertRaises(BadPart, trials.yes_no, 3, yes)

    def test_at_least_and_at_most(self):
        for table in ({0: 1}, {1: 2, 3: 1, 8: 3}, {-2: 1, 0: 1, 2: 1}):
            spread = Spread(table)
            cases = [value for value in table for _ in range(table[value])]
            for seen in range(-4, 10):
                self.assertEqual(trials.at_least(spread, seen), share([value >= seen for value in cases]))
                self.assertEqual(trials.at_most(spread, seen), share([value <= seen for value in cases]))

    def test_as_unlikely(self):
        for table in ({0: 1}, {1: 2, 3: 1, 8: 3, 9: 2}, {-2: 1, 0: 1, 2: 1}, {1: 4, 2: 6, 5: 10}):
            spread = Spread(table)
            cases = [value for value in table for _ in range(table[value])]
            for seen in range(-4, 10):
                self.assertEqual(trials.as_unlikely(spread, seen),
                                 share([table[value] <= table.get(seen, 0) for value in cases]))
        self.assertEqual(trials.as_unlikely(trials.yes_no(4, (1, 2)), 1), (5, 8))
        self.assertEqual(trials.as_unlikely(sure(3), 4), (0, 1))

    def test_signs(self):
        for rises, falls, ties in product(range(4), range(4), range(3)):
            pairs = [(1, 5)] * rises + [[2, -2]] * falls + [(3, 3)] * ties
            rows = [sum(row) for row in product((0, 1), repeat=rises + falls)]
            more = max(rises, falls)
            self.assertEqual(trials.signs_test(pairs),
                             share([row >= more or rises + falls - row >= more for row in rows]))
            self.assertEqual(trials.signs_test(tuple(pairs[::-1])), trials.signs_test(pairs))
        self.assertEqual(trials.signs_test([]), (1, 1))
        self.assertEqual(trials.signs_test([(4, 4), (0, 0)]), (1, 1))
        self.assertEqual(trials.signs_test([(1, 2)] * 5 + [(2, 2)]), (1, 16))


class LotsTest(unittest.TestCase):
    def test_sums_of(self):
        for values in LOTS + ([],):
            for few in range(len(values) + 1):
                cases = [sum(lot) for lot in combinations(values, few)]
                self.assertEqual(trials.sums_of(values, few).shown(), counted(cases))
            for few in (-1, len(values) + 1):
                self.assertRaises(BadSize, trials.sums_of, values, few)

    def test_two_lots(self):
        for one, other in product(LOTS, repeat=2):
            self.assertEqual(trials.two_lots(one, other), as_far(one, other))
        self.assertEqual(trials.two_lots([1, 2, 3], [4, 5, 6]), (1, 10))
        self.assertEqual(trials.two_lots([1, 6], [3, 4]), (1, 1))

    def test_two_lots_moved_or_stretched(self):
        for one, other in product(LOTS, repeat=2):
            chance = trials.two_lots(one, other)
            for by, on in ((1, 7), (1, -20), (3, 0), (-2, 5)):
                self.assertEqual(trials.two_lots([by * value + on for value in one],
                                                 [by * value + on for value in other]), chance)

    def test_ranks(self):
        for long in range(5):
            for values in product((-1, 0, 2, 9), repeat=long):
                found = trials.ranks(list(values))
                self.assertIs(type(found), tuple)
                self.assertEqual(found, shared_places(values))
                self.assertTrue(all(type(place) is int for place in found))
        self.assertEqual(trials.ranks((30, 10, 20)), (6, 2, 4))
        self.assertEqual(trials.ranks([5, 1, 5, 5]), (6, 2, 6, 6))

    def test_rank_test(self):
        for one, other in product(LOTS, repeat=2):
            places = shared_places([*one, *other])
            chance = as_far(places[:len(one)], places[len(one):])
            self.assertEqual(trials.rank_test(one, other), chance)
            for change in (lambda value: value ** 3, lambda value: 5 * value - 100, lambda value: 2 ** (value + 9)):
                self.assertEqual(trials.rank_test([change(value) for value in one],
                                                  [change(value) for value in other]), chance)

    def test_bare_lots_are_refused(self):
        for ask in (trials.two_lots, trials.rank_test):
            for one, other in (([], []), ([1], []), ([], [1]), ((), (1, 2))):
                self.assertRaises(BadSize, ask, one, other)


class FieldsTest(unittest.TestCase):
    def test_four_fields_by_all_orders(self):
        for a, b, c, d in product(range(3), repeat=4):
            # All orders of things of two kinds: the first so many stand in the first row.
            cases = [sum(row[:a + b]) for row in self.orders(a + c, b + d)]
            often = [cases.count(value) for value in cases]
            self.assertEqual(trials.four_fields(a, b, c, d), share([count <= cases.count(a) for count in often]))

    def orders(self, ones, noughts):
        """Return all rows of so many ones and noughts."""
        return [[1 if place in lot else 0 for place in range(ones + noughts)]
                for lot in combinations(range(ones + noughts), ones)]

    def test_four_fields_by_all_tables(self):
        for table in ((3, 1, 1, 3), (8, 2, 1, 5), (0, 4, 5, 1), (10, 0, 0, 10), (0, 0, 3, 4), (5, 0, 7, 0)):
            a, b, c, d = table
            ways = {}
            for first in range(a + b + 1):
                fields = (first, a + b - first, a + c - first, d - a + first)
                if min(fields) >= 0:
                    ways[first] = Fraction(1)
                    for field in fields:
                        ways[first] /= factorial(field)
            least = sum(way for way in ways.values() if way <= ways[a])
            self.assertEqual(trials.four_fields(*table), small(least / sum(ways.values())))
        self.assertEqual(trials.four_fields(3, 1, 1, 3), (17, 35))
        self.assertEqual(trials.four_fields(0, 0, 0, 0), (1, 1))

    def test_four_fields_refused(self):
        for place in range(4):
            fields = [2, 2, 2, 2]
            fields[place] = -1
            self.assertRaises(BadSize, trials.four_fields, *fields)

    def test_runs(self):
        for long in range(6):
            for row in product("abc", repeat=long):
                self.assertEqual(trials.runs(row), runs_in(row))
                self.assertEqual(trials.runs(list(row)), runs_in(row))
        self.assertEqual(trials.runs([]), 0)
        self.assertEqual(trials.runs([4, 4, 4]), 1)

    def test_runs_spread(self):
        for ones, others in product(range(5), repeat=2):
            if ones + others == 0:
                self.assertRaises(BadSize, trials.runs_spread, ones, others)
                continue
            cases = [runs_in(row) for row in self.orders(ones, others)]
            self.assertEqual(trials.runs_spread(ones, others).shown(), counted(cases))
        for ones, others in ((-1, 0), (-1, 2), (2, -1), (1, -1)):
            self.assertRaises(BadSize, trials.runs_spread, ones, others)

    def test_lots_of(self):
        for many, few in product(range(7), range(5)):
            ways = [row for row in product(range(1, many + 1), repeat=few) if sum(row) == many]
            self.assertEqual(trials.lots_of(many, few), len(ways))
        for many, few in ((-1, 1), (-1, 0), (-3, 2), (2, -1), (0, -1)):
            self.assertRaises(BadSize, trials.lots_of, many, few)


class BoundsTest(unittest.TestCase):
    def test_chance_bounds(self):
        for many, steps, wrong in product(range(5), (1, 2, 3, 10), ((0, 1), (1, 20), (1, 10), (1, 2), (1, 1), (3, 2))):
            for seen in range(many + 1):
                half = Fraction(*wrong) / 2
                held = []
                for step in range(steps + 1):
                    spread = trials.yes_no(many, (step, steps))
                    if min(Fraction(*spread.chance_of(lambda value: value >= seen)),
                           Fraction(*spread.chance_of(lambda value: value <= seen))) > half:
                        held.append(Fraction(step, steps))
                found = trials.chance_bounds(many, seen, wrong, steps)
                self.assertEqual(found, (small(held[0]), small(held[-1])) if held else None)

    def test_chance_bounds_examples(self):
        self.assertEqual(trials.chance_bounds(10, 5, (1, 20), 100), ((19, 100), (81, 100)))
        self.assertEqual(trials.chance_bounds(3, 0, (0, 1), 4), ((0, 1), (3, 4)))
        self.assertEqual(trials.chance_bounds(0, 0, (1, 20), 5), ((0, 1), (1, 1)))
        self.assertIsNone(trials.chance_bounds(2, 1, (1, 20), 1))
        self.assertIsNone(trials.chance_bounds(2, 1, (2, 1), 10))
        self.assertIs(type(trials.chance_bounds(2, 1, (1, 2), 10)), tuple)

    def test_chance_bounds_refused(self):
        for many, seen, steps in ((3, -1, 10), (3, 4, 10), (3, 1, 0), (3, 1, -2), (-1, 0, 4), (-1, -1, 4)):
            self.assertRaises(BadSize, trials.chance_bounds, many, seen, (1, 20), steps)

    def test_held_down(self):
        some = ((0, 1), (1, 100), (1, 60), (1, 40), (1, 20), (1, 2))
        for long, wrong in product(range(5), ((0, 1), (1, 20), (1, 2), (1, 1))):
            for chances in product(some[:5 if long > 3 else 6], repeat=long):
                order = sorted(range(long), key=lambda place: Fraction(*chances[place]))
                held = []
                for number, place in enumerate(order):
                    if Fraction(*chances[place]) > Fraction(*wrong) / (long - number):
                        break
                    held.append(place)
                found = trials.held_down(chances, wrong)
                self.assertIs(type(found), tuple)
                self.assertEqual(found, tuple(sorted(held)))

    def test_held_down_examples(self):
        self.assertEqual(trials.held_down([(1, 2), (1, 100), (1, 40)], (1, 20)), (1, 2))
        self.assertEqual(trials.held_down([(1, 100), (1, 19), (1, 1000)], (1, 20)), (0, 2))
        self.assertEqual(trials.held_down([(1, 40), (1, 40)], (1, 20)), (0, 1))
        self.assertEqual(trials.held_down([(1, 39), (1, 1000), (1, 21)], (1, 20)), (1,))
        self.assertEqual(trials.held_down([(1, 2), (1, 3)], (1, 20)), ())
        self.assertEqual(trials.held_down([(0, 1), (0, 1), (1, 20)], (1, 20)), (0, 1, 2))
        self.assertEqual(trials.held_down([], (1, 20)), ())


class OrdersTest(unittest.TestCase):
    def test_order_chances(self):
        for values in ([], [4], [1, 2], (3, 1, 2), [1, 1, 2], [5, 5, 5, 5], "abcd"):
            for test in (lambda row: row == sorted(row), lambda row: row[:1] == row[-1:], lambda row: True,
                         lambda row: False):
                cases = [test(list(row)) for row in permutations(values)]
                self.assertEqual(trials.order_chances(list(values), test), share(cases))
        self.assertEqual(trials.order_chances([1, 2, 3], lambda row: row[0] == 1), (1, 3))

    def test_order_chances_hands_lists(self):
        told = []
        for values in ([1, 2, 3], (1, 2, 3)):
            trials.order_chances(values, lambda row: told.append(row))
        self.assertEqual({type(row) for row in told}, {list})
        self.assertEqual(sorted(told), sorted([list(row) for row in permutations([1, 2, 3])] * 2))

    def test_order_chances_changes_nothing(self):
        values = [3, 1, 2]
        self.assertEqual(trials.order_chances(values, lambda row: row.sort() or row == [1, 2, 3]), (1, 1))
        self.assertEqual(values, [3, 1, 2])

    def test_order_chances_past_seven(self):
        self.assertEqual(trials.order_chances(list(range(7)), lambda row: row[0] == 3), (1, 7))
        for long in (8, 9):
            self.assertRaises(BadSize, trials.order_chances, list(range(long)), lambda row: True)

    def test_even_orders_of_two_lots(self):
        # Two lots' trial is the chance over all orders that the first so many are as far off.
        one, other = [1, 5], [2, 2, 9]
        values, mean = one + other, Fraction(2 * 19, 5)
        chance = trials.order_chances(values, lambda row: abs(sum(row[:2]) - mean) >= abs(sum(one) - mean))
        self.assertEqual(trials.two_lots(one, other), chance)
        self.assertEqual(trials.sums_of(values, 1).shown(), even(values).shown())
