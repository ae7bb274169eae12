"""Tests of points [6], [7], [8], [11], [13] to [16] together: walks, queues, bounds, plans, couples and samples."""

import unittest
from fractions import Fraction
from itertools import product

from luckwright.bounds import (all_apart, both_bounds, check_both, far_bound, one_side_bound, one_side_paper,
                               scatter_bound, table)
from luckwright.couples import (alike_table, apart, carried, check_above, check_carried, check_table, heights_for,
                                in_order_table, is_above, share_of, steps_by)
from luckwright.errors import BadPaper
from luckwright.hidden import Hidden, check_way
from luckwright.parts import is_less, minus, other_way, plus, times, total
from luckwright.plans import Plans, check_best, ruin, stakes, stop_values
from luckwright.queues import queue
from luckwright.samples import Figures, by_weights, counted, ranked, shuffled
from luckwright.spreads import Spread, added, even, greatest, mixed, sure
from luckwright.urns import longest_run
from luckwright.walks import Walk, back, check_ends, visits

O, I, H, T, T2, Q = (0, 1), (1, 1), (1, 2), (1, 3), (2, 3), (1, 4)
SPREADS = (sure(0), even([0, 1]), Spread({0: 1, 3: 2}), Spread({1: 3, 2: 2, 3: 1}), even([0, 2, 4]))


def line(chance, goal):
    """Return the walk of one who stakes one by one, up to a goal or down to nought."""
    rows = []
    for have in range(goal + 1):
        row = [O] * (goal + 1)
        if have in (0, goal):
            row[have] = I
        else:
            row[have + 1], row[have - 1] = chance, other_way(chance)
        rows.append(row)
    return Walk(rows)


class WalksTest(unittest.TestCase):
    def test_stakes_of_one_are_a_walk(self):
        for chance, goal in product((H, T, T2, (4, 5)), range(1, 7)):
            walk = line(chance, goal)
            ends = walk.ends_in([goal])
            self.assertEqual(tuple(ruin(chance, have, goal) for have in range(goal + 1)), ends)
            self.assertIs(check_ends(walk, [goal], ends), True)
            # The best stakes within so many rounds never do worse than stakes of one within as many.
            for rounds in range(5):
                for have, most in enumerate(stakes(chance, goal, rounds)):
                    self.assertFalse(is_less(most, walk.after(have, rounds)[goal]))

    def test_even_stakes_of_one_come_to_the_goal_by_what_one_has(self):
        for goal in range(1, 7):
            for have, chance in enumerate(stakes(H, goal, 4)):
                self.assertFalse(is_less(ruin(H, have, goal), chance))

    def test_mean_steps_and_visits_go_together(self):
        rows = [[O, H, H, O], [O, O, T, T2], [O, O, O, I], [O, O, O, I]]
        walk = Walk(rows)
        for place in range(4):
            # Within three steps the last place is come to for sure, so all steps till then start at the others.
            self.assertEqual(total(visits(walk, place, 3)[:3]), walk.steps_to([3])[place])
        looped = Walk([[H, Q, Q], [T, T, T], [O, O, I]])
        means = looped.steps_to([2])
        for place, count in product(range(3), range(5)):
            # Steps so far, and those that are still to come from where one is then.
            so_far = total(visits(looped, place, count)[:2])
            here = looped.after(place, count)
            left = total([times(chance, minus(mean, I)) for chance, mean in zip(here[:2], means[:2])])
            self.assertEqual(plus(so_far, left), means[place])

    def test_queues_seen_backwards_go_as_they_came(self):
        for comes, goes, room in product((Q, H, T2), (T, H, (3, 4)), range(1, 5)):
            walk = queue(comes, goes, room)
            self.assertIs(walk.is_fair_back(), True)
            self.assertEqual(back(walk).rows, walk.rows)

    def test_the_chance_of_a_run_is_a_walks(self):
        for run, yes, many in product(range(1, 4), (O, T, H, I), range(7)):
            rows = [[other_way(yes)] + [O] * run for _ in range(run)] + [[O] * run + [I]]
            for count in range(run):
                rows[count][count + 1] = plus(rows[count][count + 1], yes)
            self.assertEqual(Walk(rows).after(0, many)[run], longest_run(many, run, yes))

    def test_hidden_walks_with_a_sign_for_each_place_are_walks(self):
        rows = [[H, Q, Q], [T, T, T], [O, H, H]]
        walk = Walk(rows)
        seen = Hidden([I, O, O], rows, [[I, O, O], [O, I, O], [O, O, I]], "abc")
        blind = Hidden([I, O, O], rows, [[I]] * 3, "x")
        for count in range(1, 5):
            self.assertEqual(blind.places_by("x" * count)[-1], walk.after(0, count - 1))
            for word in product("abc", repeat=count):
                way = tuple("abc".index(letter) for letter in word)
                self.assertEqual(seen.chance(word), seen.way_chance(word, way))
                if seen.chance(word)[0] > 0:
                    self.assertEqual(seen.likeliest(word), way)


class BoundsTest(unittest.TestCase):
    def test_bounds_of_both_hold_for_tables_of_couples(self):
        for one, other in product(SPREADS, repeat=2):
            for rows in (alike_table(one, other), in_order_table(one, other)):
                for first, second in product(range(4), repeat=2):
                    both = total([chance for (a, b), chance in rows.items() if a <= first and b <= second])
                    low, high = both_bounds(one.up_to(first), other.up_to(second))
                    self.assertFalse(is_less(both, low) or is_less(high, both))
                    shown = table(one.up_to(first), other.up_to(second), both)
                    self.assertEqual(check_both(one.up_to(first), other.up_to(second), shown), both)
                    if rows == in_order_table(one, other):
                        # Rising together, both are no more as often as can be.
                        self.assertEqual(both, high)

    def test_far_bounds_hold_for_all_spreads_and_are_reached(self):
        for spread in SPREADS:
            mean, scatter = spread.mean(), spread.scatter()
            for value in range(1, 6):
                here = spread.chance_of(lambda number, value=value: number >= value)
                self.assertFalse(is_less(far_bound(mean, (value, 1)), here))
            for far in (H, I, (5, 3)):
                off = {number: minus((number, 1), mean) for number in spread.numbers()}
                above = spread.chance_of(lambda number, off=off, far=far: not is_less(off[number], far))
                below = spread.chance_of(lambda number, off=off, far=far: not is_less(minus(O, off[number]), far))
                self.assertFalse(is_less(one_side_bound(scatter, far), above))
                self.assertFalse(is_less(scatter_bound(scatter, far), plus(above, below)))
                paper = one_side_paper(scatter, far)
                self.assertEqual(total([times(value, chance) for value, chance in paper]), O)
                self.assertEqual(total([times(times(value, value), chance) for value, chance in paper]), scatter)
                self.assertEqual(paper[0], (far, one_side_bound(scatter, far)))

    def test_couples_bound_each_other(self):
        for one, other in product(SPREADS, repeat=2):
            least, far = carried(one, other), apart(one, other)
            unfilled = {(a, b): times(one.chance(a), other.chance(b)) for a in one.numbers() for b in other.numbers()}
            self.assertIs(all_apart(unfilled), True)
            for rows in (alike_table(one, other), in_order_table(one, other), unfilled):
                self.assertFalse(is_less(check_table(one, other, rows), far))
                self.assertFalse(is_less(steps_by(rows), least))
            means = minus(one.mean(), other.mean())
            self.assertFalse(is_less(least, means))
            if is_above(one, other):
                self.assertEqual(least, means)
            self.assertEqual(carried(other, one), least)
            self.assertEqual(apart(other, one), far)
            self.assertFalse(is_less(other_way(share_of(one, other)), far))
            self.assertEqual(check_carried(one, other, in_order_table(one, other), heights_for(one, other)), least)
            self.assertIs(is_above(greatest(one, other), one), True)

    def test_three_spreads(self):
        for one, other, third in product(SPREADS, repeat=3):
            for far in (apart, carried):
                self.assertFalse(is_less(plus(far(one, other), far(other, third)), far(one, third)))
            if is_above(one, other) and is_above(other, third):
                self.assertIs(check_above(one, third, in_order_table(one, third)), True)


class BestTest(unittest.TestCase):
    def test_takings_are_a_plan(self):
        for spread, steps in product(SPREADS, range(1, 5)):
            numbers, rest = spread.numbers(), len(spread.numbers())
            stay = [O] * (rest + 1)
            stay[rest] = I
            drawn = [spread.chance(number) for number in numbers] + [O]
            # At each number drawn one takes it and is done, or lets it go and draws again.
            places = [[((number, 1), stay), (O, drawn)] for number in numbers] + [[(O, stay)]]
            worths, choices = Plans(places, H).for_steps(steps)
            further = Fraction(0)
            for _ in range(steps):
                # A draw later is worth half as much.
                due = [max(Fraction(number), further / 2) for number in numbers]
                further = sum(one * Fraction(*chance) for one, chance in zip(due, drawn))
            self.assertEqual(worths[:rest], tuple(small(one) for one in due))
            top = stop_values(spread, steps)
            self.assertEqual(list(top), sorted(top, key=lambda one: Fraction(*one)))
            self.assertFalse(is_less((numbers[-1], 1), top[-1]))

    def test_no_paper_is_taken_that_shows_less_than_is_so(self):
        plans = Plans([[(O, [I, O]), (I, [O, I])], [((2, 1), [H, H]), (H, [O, I])]], H)
        best, choices = plans.best()
        for numbers in product(range(2), repeat=2):
            for values in product([small(Fraction(count, 3)) for count in range(14)], repeat=2):
                try:
                    shown = check_best(plans, numbers, values)
                except BadPaper:
                    continue
                self.assertEqual(shown, best)
            self.assertTrue(all(not is_less(most, one) for most, one in zip(best, plans.worth_by(numbers))))
        hidden = Hidden([H, H], [[T, T2], [H, H]], [[Q, (3, 4)], [H, H]], "ab")
        for rows in product((O, (1, 16), (1, 8), (3, 16), Q, (3, 8)), repeat=4):
            for way in product(range(2), repeat=2):
                try:
                    shown = check_way(hidden, "ab", way, (rows[:2], rows[2:]))
                except BadPaper:
                    continue
                self.assertEqual(shown, hidden.way_chance("ab", hidden.likeliest("ab")))

    def test_draws_by_figures_are_spreads(self):
        for one, other in product(SPREADS, repeat=2):
            # Six is a number of times each whole, so each draw takes a figure at most, and all rows suffice.
            found = counted(lambda figures: by_weights(one, figures) + by_weights(other, figures), 6, 2)
            self.assertEqual(found.shown(), added(one, other).shown())
        self.assertEqual(counted(lambda figures: ranked(shuffled(range(3), figures)), 6, 2).shown(),
                         even(list(range(6))).shown())
        both = counted(lambda figures: by_weights((SPREADS[1], SPREADS[4])[figures.below(2)], figures), 6, 2)
        self.assertEqual(both.shown(), mixed([SPREADS[1], SPREADS[4]], [1, 1]).shown())
        self.assertEqual(Figures(6, [5, 5]).below(36), 35)


def small(value):
    """Return a Fraction as a part."""
    return Fraction(value).numerator, Fraction(value).denominator
