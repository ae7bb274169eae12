"""Tests of points [8], [9], [10] and [11] together: what one file counts another tells in its own way."""

import unittest
from fractions import Fraction
from itertools import product

from luckwright.bounds import far_bound, one_side_bound, scatter_bound
from luckwright.orders import at_home, rings, tops
from luckwright.parts import is_less, minus, other_way
from luckwright.trials import (as_unlikely, at_least, four_fields, order_chances, rank_test, runs, runs_spread, sums_of,
                               two_lots, yes_no)
from luckwright.urns import bare_lots, first_of, kept_out, longest_run, put_back, row_chance, unlike, with_more

LOTS = ([0], [1, 2], [4, -3, 4], [2, 2, 7], [-1, 0, 5, 9])


class TogetherTest(unittest.TestCase):
    def test_tables_of_four_fields_are_draws_not_put_back(self):
        for a, b, c, d in product(range(4), repeat=4):
            if a + b + c + d > 0:
                self.assertEqual(four_fields(a, b, c, d), as_unlikely(kept_out([a + c, b + d], 0, a + b), a))

    def test_draws_put_back_are_yeses(self):
        for mine, others, many in product(range(4), range(1, 4), range(6)):
            chance = Fraction(mine, mine + others)
            yes = (chance.numerator, chance.denominator)
            self.assertEqual(put_back([others, mine], 1, many).shown(), yes_no(many, yes).shown())
            self.assertEqual(with_more([others, mine], 1, many, 0).shown(), yes_no(many, yes).shown())
            self.assertEqual(longest_run(many, 1, yes), at_least(yes_no(many, yes), 1))
            self.assertEqual(longest_run(many, max(1, many), yes), at_least(yes_no(many, yes), max(1, many)))

    def test_draws_not_put_back_are_sums_of_lots(self):
        for mine, others in product(range(1, 4), range(1, 4)):
            for many in range(mine + others + 1):
                self.assertEqual(kept_out([mine, others], 0, many).shown(),
                                 sums_of([1] * mine + [0] * others, many).shown())

    def test_the_first_of_a_kind_stands_behind_a_row_of_others(self):
        for mine, others in product(range(1, 4), range(4)):
            found = first_of([mine, others], 0)
            for draw in range(1, others + 2):
                self.assertEqual(found.chance(draw), row_chance([mine, others], [1] * (draw - 1) + [0]))

    def test_draws_that_are_unlike_leave_the_fewest_lots_bare(self):
        for lots, balls in product(range(1, 6), range(6)):
            self.assertEqual(bare_lots(lots, balls).chance(lots - balls), unlike(lots, balls))

    def test_two_lots_moved_or_stretched(self):
        for one, other in product(LOTS, repeat=2):
            for by, on in ((1, 12), (5, -3), (-4, 0)):
                self.assertEqual(two_lots([by * value + on for value in one], [by * value + on for value in other]),
                                 two_lots(one, other))

    def test_places_under_a_rising_change(self):
        for one, other in product(LOTS, repeat=2):
            for change in (lambda value: value ** 5, lambda value: 3 * value + 1, lambda value: 4 ** (value + 3)):
                self.assertEqual(rank_test([change(value) for value in one], [change(value) for value in other]),
                                 rank_test(one, other))

    def test_rings_and_tops_go_together(self):
        for many in range(1, 9):
            self.assertEqual(rings(many).shown(), tops(many).shown())

    def test_orders_by_trying_all(self):
        for many in range(1, 6):
            chance = order_chances(list(range(many)), lambda row: all(place != one for place, one in enumerate(row)))
            self.assertEqual(at_home(many).chance(0), chance)
        kinds = "aabbb"
        for count in range(1, 7):
            chance = order_chances(list(kinds), lambda row, count=count: runs(row) == count)
            self.assertEqual(runs_spread(2, 3).chance(count), chance)

    def test_bounds_hold_for_what_trials_count(self):
        for many, yes, far in product(range(1, 6), ((1, 3), (1, 2), (3, 4)), ((1, 2), (1, 1), (2, 1))):
            spread = yes_no(many, yes)
            mean, scatter = spread.mean(), spread.scatter()
            off = [(minus((value, 1), mean), spread.chance(value)) for value in spread.numbers()]
            above = sum(Fraction(*chance) for way, chance in off if not is_less(way, far))
            below = sum(Fraction(*chance) for way, chance in off if not is_less(minus((0, 1), way), far))
            self.assertLessEqual(above + below, Fraction(*scatter_bound(scatter, far)))
            self.assertLessEqual(above, Fraction(*one_side_bound(scatter, far)))
            self.assertFalse(is_less(far_bound(mean, (many, 1)), at_least(spread, many)))
            self.assertEqual(other_way(spread.up_to(many - 1)), at_least(spread, many))
