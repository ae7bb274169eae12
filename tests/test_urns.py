"""Tests of luckwright.urns: point [8], each def held against counting all cases."""

import unittest
from fractions import Fraction
from itertools import permutations, product

from luckwright import urns
from luckwright.errors import BadPart, BadSize
from luckwright.spreads import Spread

URNS = ([1], [3], [1, 1], [2, 1], [0, 2], [3, 0, 1], [1, 1, 1], [2, 1, 2], (1, 3), [0, 0, 4])
BARE = ([], (), [0], [0, 0], [-1], [3, -1], [-1, 2], [1, -1])
CHANCES = ((0, 1), (1, 3), (1, 2), (3, 4), (1, 1))


def small(value):
    """Return a Fraction as a part."""
    return Fraction(value).numerator, Fraction(value).denominator


def balls_of(counts):
    """Return the kinds of an urn's balls, one for each ball."""
    return [kind for kind, count in enumerate(counts) for _ in range(count)]


def counted(rows):
    """Return the spread of numbers that are all cases, each alike."""
    return Spread({value: rows.count(value) for value in rows}).shown()


def share(rows):
    """Return the part of all cases that are True."""
    return small(Fraction(sum(1 for row in rows if row), len(rows)))


def with_more_put(counts, kind, many, more):
    """Return a table of how many of a kind are drawn to chances, when each is put back with more of it."""
    found = {}
    for row in product(range(len(counts)), repeat=many):
        urn, chance = list(counts), Fraction(1)
        for drawn in row:
            chance *= Fraction(urn[drawn], sum(urn))
            urn[drawn] += more
        found[row.count(kind)] = found.get(row.count(kind), 0) + chance
    return {value: small(chance) for value, chance in sorted(found.items()) if chance > 0}


def longest(row):
    """Return how long the longest run of True in a row is."""
    return max(len(run) for run in "".join("1" if one else "0" for one in row).split("0"))


class DrawTest(unittest.TestCase):
    def test_check_urn(self):
        for counts in URNS:
            self.assertEqual(urns.check_urn(counts), tuple(counts))
            self.assertIs(type(urns.check_urn(counts)), tuple)
        for counts in BARE:
            self.assertRaises(BadSize, urns.check_urn, counts)

    def test_kept_out(self):
        for counts in URNS:
            balls = balls_of(counts)
            for kind, many in product(range(len(counts)), range(min(4, len(balls)) + 1)):
                cases = [row.count(kind) for row in permutations(balls, many)]
                self.assertEqual(urns.kept_out(counts, kind, many).shown(), counted(cases))
        self.assertEqual(urns.kept_out([2, 3], 0, 5).weights, {2: 1})

    def test_put_back(self):
        for counts in URNS:
            balls = balls_of(counts)
            for kind, many in product(range(len(counts)), range(5)):
                cases = [row.count(kind) for row in product(balls, repeat=many)]
                self.assertEqual(urns.put_back(counts, kind, many).shown(), counted(cases))

    def test_with_more(self):
        for counts in URNS:
            for kind, many, more in product(range(len(counts)), range(5), range(4)):
                found = urns.with_more(counts, kind, many, more)
                self.assertEqual({value: found.chance(value) for value in found.numbers()},
                                 with_more_put(counts, kind, many, more))
        self.assertEqual(urns.with_more([1, 1], 0, 4, 1).weights, {0: 1, 1: 1, 2: 1, 3: 1, 4: 1})

    def test_with_no_more_put_in_is_as_put_back(self):
        for counts in URNS:
            for kind, many in product(range(len(counts)), range(7)):
                self.assertEqual(urns.with_more(counts, kind, many, 0).shown(),
                                 urns.put_back(counts, kind, many).shown())

    def test_row_chance(self):
        for counts in URNS:
            balls = balls_of(counts)
            for long in range(min(4, len(balls)) + 1):
                cases = list(permutations(balls, long))
                for row in product(range(len(counts)), repeat=long):
                    chance = share([case == row for case in cases])
                    self.assertEqual(urns.row_chance(counts, row), chance)
                    self.assertEqual(urns.row_chance(tuple(counts), list(row)), chance)
        self.assertEqual(urns.row_chance([2, 3], (0, 1, 0)), (1, 10))
        self.assertEqual(urns.row_chance([2, 3], (0, 0, 0)), (0, 1))
        self.assertEqual(urns.row_chance([2, 3], ()), (1, 1))

    def test_first_of(self):
        for counts in URNS:
            balls = balls_of(counts)
            for kind, count in enumerate(counts):
                if count == 0:
                    self.assertRaises(BadSize, urns.first_of, counts, kind)
                else:
                    cases = [row.index(kind) + 1 for row in permutations(balls)]
                    self.assertEqual(urns.first_of(counts, kind).shown(), counted(cases))

    def test_bare_urns_are_refused(self):
        for counts in BARE:
            self.assertRaises(BadSize, urns.kept_out, counts, 0, 0)
            self.assertRaises(BadSize, urns.put_back, counts, 0, 0)
            self.assertRaises(BadSize, urns.with_more, counts, 0, 0, 0)
            self.assertRaises(BadSize, urns.row_chance, counts, [])
            self.assertRaises(BadSize, urns.first_of, counts, 0)

    def test_counts_out_of_bounds(self):
        for many in (-1, 4, 5):
            self.assertRaises(BadSize, urns.kept_out, [1, 2], 0, many)
        self.assertRaises(BadSize, urns.put_back, [1, 2], 0, -1)
        self.assertRaises(BadSize, urns.with_more, [1, 2], 0, -1, 1)
        self.assertRaises(BadSize, urns.with_more, [1, 2], 0, 1, -1)
        self.assertRaises(BadSize, urns.row_chance, [1, 2], [0, 1, 1, 1])

    def test_a_kind_that_is_not_there(self):
        for kind in (-1, 2, 9):
            self.assertRaises(BadSize, urns.kept_out, [1, 2], kind, 1)
            self.assertRaises(BadSize, urns.put_back, [1, 2], kind, 1)
            self.assertRaises(BadSize, urns.with_more, [1, 2], kind, 1, 1)
            self.assertRaises(BadSize, urns.first_of, [1, 2], kind)
            for row in ([kind], [0, kind], [kind, 1]):
                self.assertRaises(BadSize, urns.row_chance, [1, 2], row)


class KindsTest(unittest.TestCase):
    def test_all_kinds_and_unlike(self):
        for many, draws in product(range(1, 5), range(6)):
            cases = list(product(range(many), repeat=draws))
            self.assertEqual(urns.all_kinds(many, draws), share([len(set(row)) == many for row in cases]))
            self.assertEqual(urns.unlike(many, draws), share([len(set(row)) == draws for row in cases]))
        for ask in (urns.all_kinds, urns.unlike):
            for many, draws in ((0, 0), (0, 3), (-1, 2), (1, -1), (3, -2)):
                self.assertRaises(BadSize, ask, many, draws)

    def test_collected(self):
        for many in range(1, 7):
            self.assertEqual(urns.collected(many, many), (0, 1))
            for have in range(many):
                # The next draw is a new kind or leaves all as it was, so the mean hangs on itself and the next.
                here, there = Fraction(*urns.collected(many, have)), Fraction(*urns.collected(many, have + 1))
                self.assertEqual(here, 1 + Fraction(have, many) * here + Fraction(many - have, many) * there)
        self.assertEqual(urns.collected(6, 0), (147, 10))
        self.assertEqual(urns.collected(2, 1), (2, 1))
        for many, have in ((0, 0), (-1, -1), (3, -1), (3, 4), (0, 1)):
            self.assertRaises(BadSize, urns.collected, many, have)

    def test_collected_is_what_all_kinds_leave_open(self):
        for many in (1, 2, 3):
            tries = sum(1 - Fraction(*urns.all_kinds(many, draws)) for draws in range(60))
            self.assertAlmostEqual(float(tries), float(Fraction(*urns.collected(many, 0))), 6)

    def test_least_alike(self):
        for many, chance in product(range(1, 6), CHANCES + ((1, 100), (99, 100), (2, 4))):
            draws = [draws for draws in range(many + 2)
                     if 1 - Fraction(*urns.unlike(many, draws)) >= Fraction(*chance)]
            self.assertEqual(urns.least_alike(many, chance), draws[0])
        self.assertEqual(urns.least_alike(365, (1, 2)), 23)
        self.assertEqual(urns.least_alike(5, (1, 1)), 6)
        self.assertEqual(urns.least_alike(5, (0, 1)), 0)

    def test_least_alike_refused(self):
        for many in (0, -1):
            self.assertRaises(BadSize, urns.least_alike, many, (1, 2))
        for chance in ((3, 2), (101, 100), (2, 1)):
            self.assertRaises(BadSize, urns.least_alike, 4, chance)

    def test_bare_lots(self):
        for lots, balls in product(range(1, 5), range(6)):
            cases = [lots - len(set(row)) for row in product(range(lots), repeat=balls)]
            self.assertEqual(urns.bare_lots(lots, balls).shown(), counted(cases))
        for lots, balls in ((0, 0), (0, 2), (-1, 1), (2, -1)):
            self.assertRaises(BadSize, urns.bare_lots, lots, balls)

    def test_longest_run(self):
        for many, run, yes in product(range(7), range(1, 5), CHANCES):
            chance = Fraction(*yes)
            whole = sum(chance ** sum(row) * (1 - chance) ** (many - sum(row))
                        for row in product((True, False), repeat=many) if longest(row) >= run)
            self.assertEqual(urns.longest_run(many, run, yes), small(whole))
        self.assertEqual(urns.longest_run(3, 3, (1, 1)), (1, 1))
        self.assertEqual(urns.longest_run(3, 4, (1, 1)), (0, 1))
        self.assertEqual(urns.longest_run(9, 1, (0, 1)), (0, 1))
        self.assertEqual(urns.longest_run(4, 2, (2, 4)), (1, 2))
        for many, run in ((3, 0), (3, -1), (-1, 1), (-1, 0)):
            self.assertRaises(BadSize, urns.longest_run, many, run, (1, 2))
        for yes in ((-1, 2), (3, 2), (1, 0)):
            self.assertRaises(BadPart, urns.longest_run, 3, 1, yes)
