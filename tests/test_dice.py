"""Tests of luckwright.dice: point [4], held against counting all faces."""

import unittest
from itertools import combinations, product
from math import gcd

from luckwright import dice
from luckwright.errors import BadSize, BadText
from luckwright.spreads import Spread, even, sure


def rows_of(many, sides):
    """Return all rows of faces that so many dice show."""
    return list(product(range(1, sides + 1), repeat=many))


def kept_sum(row, keep, best):
    """Return the sum of the best, or worst, so many of a row."""
    return sum(sorted(row, reverse=best)[:keep])


def burst_cases(sides, most):
    """Return the sums of all rows of a greatest many rolls, counted up to the first that doesn't burst."""
    found = []
    for row in rows_of(most, sides):
        score = 0
        for face in row:
            score += face
            if face != sides:
                break
        found.append(score)
    return found


class DiceTest(unittest.TestCase):
    def holds(self, spread, rows):
        """Hold a spread against all cases."""
        self.assertIsInstance(spread, Spread)
        counts = {value: rows.count(value) for value in sorted(set(rows))}
        size = gcd(*counts.values())
        shown = tuple((value, count // size) for value, count in counts.items())
        self.assertEqual(spread.shown(), (shown, len(rows) // size))


class RollsTest(DiceTest):
    def test_figures(self):
        self.assertEqual(dice.FIGURES, "0123456789")

    def test_die(self):
        for sides in (1, 2, 6, 20):
            self.holds(dice.die(sides), list(range(1, sides + 1)))
        for sides in (0, -1, -6):
            self.assertRaises(BadSize, dice.die, sides)

    def test_rolls(self):
        for many, sides in product(range(4), range(1, 6)):
            self.holds(dice.rolls(many, sides), [sum(row) for row in rows_of(many, sides)])
        self.assertEqual(dice.rolls(0, 6).shown(), (((0, 1),), 1))
        for many, sides in ((-1, 6), (-1, 0), (1, 0), (0, 0), (2, -3)):
            self.assertRaises(BadSize, dice.rolls, many, sides)

    def test_kept(self):
        for many, sides, best in product(range(4), range(1, 6), (True, False)):
            for keep in range(many + 1):
                rows = [kept_sum(row, keep, best) for row in rows_of(many, sides)]
                self.holds(dice.kept(many, sides, keep, best), rows)
        self.holds(dice.kept(4, 6, 3), [kept_sum(row, 3, True) for row in rows_of(4, 6)])
        self.holds(dice.kept(4, 6, 3, best=False), [kept_sum(row, 3, False) for row in rows_of(4, 6)])

    def test_nothing_kept_and_all_kept(self):
        for best in (True, False):
            self.assertEqual(dice.kept(3, 4, 0, best).shown(), sure(0).shown())
            self.assertEqual(dice.kept(0, 4, 0, best).shown(), sure(0).shown())
            self.assertEqual(dice.kept(3, 4, 3, best).shown(), dice.rolls(3, 4).shown())

    def test_kept_refuses(self):
        for many, sides, keep in ((3, 6, 4), (3, 6, -1), (-1, 6, 0), (-1, 6, -1), (3, 0, 1), (0, 0, 0), (2, -1, 1)):
            self.assertRaises(BadSize, dice.kept, many, sides, keep)
            self.assertRaises(BadSize, dice.kept, many, sides, keep, False)

    def test_laid(self):
        self.assertEqual(dice.laid({(0, 0): 1}, 2, 1, 5, False), {(0, 0): 1, (1, 5): 2, (2, 5): 1})
        self.assertEqual(dice.laid({(0, 0): 1}, 2, 2, 5, True), {(2, 10): 1})
        self.assertEqual(dice.laid({(1, 6): 2}, 3, 2, 5, False), {(1, 6): 2, (2, 11): 4, (3, 11): 2})
        self.assertEqual(dice.laid({(1, 6): 2, (3, 9): 7}, 3, 2, 5, True), {(3, 11): 2, (3, 9): 7})
        self.assertEqual(dice.laid({(3, 9): 7}, 3, 2, 5, False), {(3, 9): 7})
        self.assertEqual(dice.laid({(0, 8): 1, (1, 6): 3}, 2, 2, 2, False),
                         {(0, 8): 1, (1, 10): 2, (2, 12): 1, (1, 6): 3, (2, 8): 3})
        self.assertEqual(dice.laid({(0, 5): 1, (1, 0): 3}, 2, 2, 5, True), {(2, 15): 1, (2, 5): 3})
        self.assertEqual(dice.laid({(0, 5): 1, (1, 10): 3}, 2, 2, 5, True), {(2, 15): 4})

    def test_laid_changes_no_states(self):
        states = {(0, 0): 1}
        self.assertIs(type(dice.laid(states, 2, 1, 5, False)), dict)
        self.assertEqual(states, {(0, 0): 1})

    def test_ways(self):
        for many, few in product(range(7), range(9)):
            self.assertEqual(dice.ways(many, few), len(list(combinations(range(many), few))))

    def test_again(self):
        for sides in range(1, 6):
            for test in (lambda value: value == 1, lambda value: value > 2, lambda value: True, lambda value: False):
                rows = [second if test(first) else first for first, second in rows_of(2, sides)]
                self.holds(dice.again(dice.die(sides), test), rows)
        weights = [-1, -1, -1, 4, 4, 9]
        rows = [second if first < 5 else first for first, second in product(weights, repeat=2)]
        self.holds(dice.again(even(weights), lambda value: value < 5), rows)

    def test_bursting(self):
        for sides, most in product(range(1, 6), range(1, 4)):
            self.holds(dice.bursting(sides, most), burst_cases(sides, most))
        self.assertEqual(dice.bursting(6, 1).shown(), dice.die(6).shown())
        self.assertEqual(dice.bursting(1, 5).shown(), sure(5).shown())

    def test_bursting_refuses(self):
        for sides, most in ((6, 0), (6, -1), (0, 1), (0, 0), (-2, 3)):
            self.assertRaises(BadSize, dice.bursting, sides, most)

    def test_mixed_in(self):
        spread, more = [1, 2, 2, 3], [0, 5, 5]
        for side in (1, 2, 3):
            rows = [a + b if a == side else a for a, b in product(spread, more)]
            self.holds(dice.mixed_in(even(spread), side, even(more)), rows)
        self.holds(dice.mixed_in(even(spread), 9, even(more)), spread)
        self.holds(dice.mixed_in(even([1, 2]), 1, even([0, 1])), [1, 2, 2, 2])

    def test_hits(self):
        for many, sides, least in product(range(4), range(1, 6), range(-1, 8)):
            rows = [sum(face >= least for face in row) for row in rows_of(many, sides)]
            self.holds(dice.hits(many, sides, least), rows)
        for many, sides in ((-1, 6), (1, 0), (0, 0), (-1, 0)):
            self.assertRaises(BadSize, dice.hits, many, sides, 3)

    def test_pool(self):
        self.assertEqual(dice.pool([]).shown(), sure(0).shown())
        self.holds(dice.pool([dice.die(3)]), [1, 2, 3])
        rows = [a + b - c for a, b, c in product(range(1, 3), range(1, 5), range(1, 4))]
        self.holds(dice.pool((dice.die(2), dice.die(4), even([-1, -2, -3]))), rows)


class WordsTest(DiceTest):
    def test_numbers(self):
        for word, value in (("0", 0), ("7", 7), ("00", 0), ("07", 7), ("10", 10), ("99", 99)):
            self.assertEqual(dice.number(word), value)
            self.assertEqual(dice.term(word).shown(), sure(value).shown())
            self.assertEqual(dice.read(word).shown(), sure(value).shown())

    def test_no_numbers(self):
        for word in ("", "100", "000", "x", "1x", "x1", "-1", "+1", " 1", "1 ", "1.", "1x2", "1 2", "\u00b2",
                     "\u0663", "1\n"):
            for reader in (dice.number, dice.term):
                with self.subTest(word=word, reader=reader.__name__):
                    self.assertRaises(BadText, reader, word)

    def test_terms(self):
        self.holds(dice.term("3d4"), [sum(row) for row in rows_of(3, 4)])
        self.holds(dice.term("03d04"), [sum(row) for row in rows_of(3, 4)])
        self.holds(dice.term("4d3b2"), [kept_sum(row, 2, True) for row in rows_of(4, 3)])
        self.holds(dice.term("4d3w2"), [kept_sum(row, 2, False) for row in rows_of(4, 3)])
        self.assertEqual(dice.term("0d6").shown(), sure(0).shown())
        self.assertEqual(dice.term("2d6b0").shown(), sure(0).shown())
        self.assertEqual(dice.term("2d10").shown(), dice.rolls(2, 10).shown())
        self.assertEqual(dice.term("10d2w10").shown(), dice.rolls(10, 2).shown())

    def test_no_terms(self):
        for word in ("d", "d6", "3d", "3d6b", "3d6w", "b3", "w3", "3b3", "db", "3db2", "3D6", "3d6d2", "3d6b2b1",
                     "3d6b2w1", "3d6w2b1", "3d6w2w1", "100d6", "3d100", "3d6b100", "3d6x", "3 d6", "3d6b 2", "3d6 ",
                     "3d-6", "-3d6", "3d6B2"):
            with self.subTest(word=word):
                self.assertRaises(BadText, dice.term, word)
                self.assertRaises(BadText, dice.read, "1+" + word if word[0] != "-" else word)

    def test_terms_out_of_bounds(self):
        for word in ("3d0", "0d0", "3d00", "3d6b4", "3d6w4", "2d0b1", "0d6b1"):
            self.assertRaises(BadSize, dice.term, word)
            self.assertRaises(BadSize, dice.read, word)
            self.assertRaises(BadSize, dice.read, "5-" + word)

    def test_signs_between(self):
        self.holds(dice.read("2d4+3"), [sum(row) + 3 for row in rows_of(2, 4)])
        self.holds(dice.read("2d4-3"), [sum(row) - 3 for row in rows_of(2, 4)])
        self.holds(dice.read("7-2d3"), [7 - sum(row) for row in rows_of(2, 3)])
        self.assertEqual(dice.read("1-2-3+10-4").shown(), sure(2).shown())
        rows = [kept_sum(row[:3], 2, True) - row[3] + 5 - kept_sum(row[4:], 1, False) for row in rows_of(6, 3)]
        self.holds(dice.read("3d3b2-1d3+5-2d3w1"), rows)

    def test_signs_elsewhere_and_bare_words(self):
        for text in ("", "+", "-", "+3", "-3", "-1d6", "+1d6", "3+", "3-", "1d6-", "1d6+", "3++4", "3--4", "3+-4",
                     "3-+4", "3 + 4", "1d6 +2", " ", "3+ ", "++", "--", "1d6+d", "x", "1d6+100", "100-1d6"):
            with self.subTest(text=text):
                self.assertRaises(BadText, dice.read, text)
