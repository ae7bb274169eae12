"""Tests of luckwright.sums: point [19], and of point [21] a sum's fields, held against adding anew and all cases."""

import unittest
from fractions import Fraction
from itertools import combinations, permutations, product

from luckwright import sums
from luckwright.dice import die, pool, read
from luckwright.errors import BadPart, BadSize, NoSuch
from luckwright.spreads import Spread, even, sure
from luckwright.sums import Sum

O, I, H, T, Q = (0, 1), (1, 1), (1, 2), (1, 3), (1, 4)
NO_CHANCES = ((3, 2), (-1, 2), (1, 0))
SPREADS = {"d": die(6), "a": Spread({-3: 1, 0: 2, 4: 3}), "c": sure(-5), "b": even([0, 7])}


def small(value):
    """Return a Fraction as a part."""
    return Fraction(value).numerator, Fraction(value).denominator


def state(one):
    """Return all that a sum tells of itself."""
    return dict(one.rows), one.names(), one.spread.shown()


class SumTest(unittest.TestCase):
    def test_nothing_put_in(self):
        one = Sum()
        self.assertEqual((one.rows, one.names(), one.spread.shown()), ({}, (), sure(0).shown()))
        self.assertIsInstance(one.spread, Spread)

    def test_put_and_take_in_any_order(self):
        for order in permutations(SPREADS):
            for back in (order, order[::-1], sorted(order)):
                one = Sum()
                for count, name in enumerate(order, start=1):
                    self.assertIsNone(one.put(name, SPREADS[name]))
                    self.assertEqual(one.names(), tuple(sorted(order[:count])))
                    self.assertEqual(one.spread.shown(), pool([SPREADS[name] for name in order[:count]]).shown())
                    self.assertEqual(one.rows, {name: SPREADS[name] for name in order[:count]})
                left = list(order)
                for name in back:
                    self.assertIsNone(one.take(name))
                    left.remove(name)
                    self.assertEqual(one.names(), tuple(sorted(left)))
                    self.assertEqual(one.spread.shown(), pool([SPREADS[name] for name in left]).shown())
                    self.assertEqual(one.rows, {name: SPREADS[name] for name in left})

    def test_put_again_behind_taking(self):
        one = Sum()
        one.put("a", die(6))
        one.take("a")
        one.put("a", die(4))
        self.assertEqual((one.names(), one.spread.shown()), (("a",), die(4).shown()))

    def test_sums_do_not_share(self):
        one, other = Sum(), Sum()
        one.put("a", die(6))
        self.assertEqual(state(other), ({}, (), sure(0).shown()))

    def test_needed(self):
        one = Sum()
        for name, spread in SPREADS.items():
            one.put(name, spread)
        for name, goal in product(SPREADS, range(-10, 15)):
            rest = pool([spread for other, spread in SPREADS.items() if other != name])
            whole = pool(list(SPREADS.values()))
            due = tuple(small(sum(Fraction(*spread.chance(value)) for value in spread.numbers() if value >= goal))
                        for spread in (whole, rest))
            self.assertEqual(one.needed(name, goal), due)
        self.assertEqual(one.names(), ("a", "b", "c", "d"))

    def test_what_is_refused_leaves_all_as_it_was(self):
        one = Sum()
        for name in ("a", "b"):
            one.put(name, SPREADS[name])
        before = state(one)
        self.assertRaises(NoSuch, one.put, "a", die(20))
        self.assertRaises(NoSuch, one.put, "b", SPREADS["b"])
        self.assertRaises(NoSuch, one.take, "c")
        self.assertRaises(NoSuch, one.needed, "c", 3)
        self.assertEqual(state(one), before)
        self.assertIs(one.rows["a"], SPREADS["a"])
        empty = Sum()
        self.assertRaises(NoSuch, empty.take, "a")
        self.assertRaises(NoSuch, empty.needed, "a", 0)
        self.assertEqual(state(empty), ({}, (), sure(0).shown()))


def all_cases(chances):
    """Return (which come, chance) of all cases of things that don't hang on each other."""
    found = []
    for row in product((True, False), repeat=len(chances)):
        share = Fraction(1)
        for comes, chance in zip(row, chances):
            share *= Fraction(*chance) if comes else 1 - Fraction(*chance)
        found.append((row, share))
    return found


class OverlapTest(unittest.TestCase):
    def test_how_many_by_adding_all_cases(self):
        for many in range(5):
            for chances in product((O, T, H, I), repeat=many):
                found = sums.how_many(chances)
                self.assertIsInstance(found, Spread)
                for count in range(many + 1):
                    due = sum(share for row, share in all_cases(chances) if row.count(True) == count)
                    self.assertEqual(found.chance(count), small(due))
        self.assertEqual(sums.how_many([]).shown(), sure(0).shown())
        self.assertEqual(sums.how_many([(2, 6), (3, 6)]).shown(), (((0, 2), (1, 3), (2, 1)), 6))
        for chance in NO_CHANCES:
            self.assertRaises(BadPart, sums.how_many, [H, chance])

    def test_overlaps_by_adding_all_cases(self):
        for many in range(4):
            for chances in product((O, T, I), repeat=many):
                cases = all_cases(chances)
                overlaps = tuple(small(sum(share for row, share in cases for lot in combinations(row, size) if all(lot)))
                                 for size in range(many + 1))
                spread = sums.how_many(chances)
                self.assertEqual(sums.overlaps_of(spread, many), overlaps)
                due = tuple(spread.chance(count) for count in range(many + 1))
                self.assertEqual(sums.from_overlaps(overlaps), due)
                self.assertEqual(sums.from_overlaps(list(overlaps)), due)
                self.assertIs(type(sums.from_overlaps(list(overlaps))), tuple)
                self.assertIs(type(sums.overlaps_of(spread, many)), tuple)

    def test_things_that_hang_on_each_other(self):
        # Three orders of two things leave both, or none, or one at home; all lots' chances are told by counting.
        for weights in product(range(3), repeat=4):
            if sum(weights) > 0:
                spread = Spread(dict(enumerate(weights)))
                for many in (3, 4, 6):
                    overlaps = sums.overlaps_of(spread, many)
                    self.assertEqual(len(overlaps), many + 1)
                    self.assertEqual(sums.from_overlaps(overlaps),
                                     tuple(spread.chance(count) for count in range(many + 1)))

    def test_examples(self):
        self.assertEqual(sums.from_overlaps([I]), (I,))
        self.assertEqual(sums.from_overlaps([I, I, Q]), (Q, H, Q))
        self.assertEqual(sums.from_overlaps([]), ())
        self.assertEqual(sums.overlaps_of(even([0, 2]), 3), (I, I, H, O))
        self.assertEqual(sums.overlaps_of(even([0, 2]), 0), (I,))
        self.assertEqual(sums.from_overlaps([(2, 2), (2, 4)]), (H, H))

    def test_sums_that_cannot_be(self):
        for overlaps in ([I, (3, 2)], [I, I, H, H], [I, (-1, 2)], [O, I], [I, H, (3, 5)], [I, (2, 1), H], [(-1, 1)],
                         [(2, 1)], [H, Q]):
            self.assertRaises(BadSize, sums.from_overlaps, overlaps)


class GoalTest(unittest.TestCase):
    def test_shortfall(self):
        for spread, goal in product(SPREADS.values(), range(-8, 10)):
            due = sum(Fraction(*spread.chance(value)) * max(0, goal - value) for value in spread.numbers())
            self.assertEqual(sums.shortfall(spread, goal), small(due))
        self.assertEqual(sums.shortfall(die(6), 1), O)
        self.assertEqual(sums.shortfall(die(6), 7), (7, 2))

    def test_least_goal(self):
        for spread in (*SPREADS.values(), read("3d6")):
            for count in range(25):
                chance = small(Fraction(count, 24))
                due = next(value for value in spread.numbers() if Fraction(*spread.up_to(value)) >= Fraction(*chance))
                self.assertEqual(sums.least_goal(spread, chance), due)
            self.assertEqual(sums.least_goal(spread, O), spread.numbers()[0])
            self.assertEqual(sums.least_goal(spread, I), spread.numbers()[-1])
            self.assertEqual(sums.least_goal(spread, H), spread.middle())
        for chance in NO_CHANCES:
            self.assertRaises(BadPart, sums.least_goal, die(6), chance)
