"""Tests of luckwright.plans: point [14], held against trying all choices, takings, stakes and tosses."""

import unittest
from fractions import Fraction
from itertools import product

from luckwright.errors import BadPaper, BadPart, BadTree
from luckwright.plans import Plans, check_best, ruin, stakes, stop_values
from luckwright.spreads import Spread, even, sure
from luckwright.walks import Walk

O, I, H, T, T2, Q = (0, 1), (1, 1), (1, 2), (1, 3), (2, 3), (1, 4)
LATER = (O, H, (9, 10))
# For each plan's places the choices: pay and chances to go on.
PLACES = {
    "one": [[((3, 1), [I])]],
    "alike": [[(I, [I]), (I, [I])]],
    "better": [[(O, [I]), (I, [I])]],
    "debts": [[((-1, 1), [O, I]), ((-2, 3), [I, O])], [((-5, 2), [H, H]), ((-3, 1), [I, O])]],
    "climb": [[((1, 1), [I, O, O]), (O, [O, I, O])], [(O, [H, O, H])], [((7, 2), [T, T, T]), ((3, 1), [O, O, I])]],
    "swaps": [[(O, [O, I]), (H, [I, O])], [((2, 1), [I, O]), ((7, 4), [O, I])]],
    "ties": [[(O, [O, I, O]), (O, [O, O, I])], [(I, [O, I, O])], [(I, [O, O, I]), (I, [O, I, O])]],
}


def small(value):
    """Return a Fraction as a part."""
    return Fraction(value).numerator, Fraction(value).denominator


def fractions(row):
    """Return parts as Fractions."""
    return [Fraction(*one) for one in row]


def all_choices(places):
    """Return all rows of one choice for each place."""
    return list(product(*[range(len(choices)) for choices in places]))


def stepped(places, later, rows):
    """Return what all places are worth when choices are taken step by step by rows of them, the first step's last."""
    worths = [Fraction(0)] * len(places)
    for numbers in rows:
        worths = [Fraction(*places[place][number][0]) + Fraction(*later) * sum(
            Fraction(*chance) * worth for chance, worth in zip(places[place][number][1], worths))
            for place, number in enumerate(numbers)]
    return worths


def holds(places, later, numbers, worths):
    """Tell whether worths for ever satisfy the sums of choices."""
    values = fractions(worths)
    return all(values[place] == Fraction(*places[place][number][0]) + Fraction(*later) * sum(
        Fraction(*chance) * value for chance, value in zip(places[place][number][1], values))
        for place, number in enumerate(numbers))


def all_plans():
    """Return (places, later, plans) of all places and worths of later pay."""
    return [(places, later, Plans(places, later)) for places in PLACES.values() for later in LATER]


class PlansTest(unittest.TestCase):
    def test_fields(self):
        plans = Plans([(((4, 2), [(2, 4), H]), ((1, -3), (O, (3, 3)))), [(O, (I, O))]], (2, 4))
        self.assertEqual(plans.later, H)
        self.assertEqual(plans.places, [[((2, 1), (H, H)), ((-1, 3), (O, I))], [(O, (I, O))]])
        self.assertEqual([type(plans.places), type(plans.later)], [list, tuple])

    def test_what_is_handed_in_is_neither_changed_nor_kept(self):
        places = [[((4, 2), [(3, 3)])]]
        plans = Plans(places, (2, 4))
        self.assertEqual(places, [[((4, 2), [(3, 3)])]])
        places[0][0][1].clear()
        places[0].clear()
        self.assertEqual(plans.worth_by([0]), ((4, 1),))

    def test_plans_that_are_refused(self):
        for places in ([], [[]], [[(O, [I, O])], []], [[(O, [I])], [(O, [I, O])]], [[(O, [I, O])]], [[(O, [])]],
                       [[(O, [H])]], [[(O, [O])]], [[(O, [H, H])], [(O, [H, T])]], [[(O, [I]), (O, [H])]]):
            self.assertRaises(BadTree, Plans, places, H)
        self.assertRaises(BadTree, Plans, [[(O, [I])]], I)
        self.assertRaises(BadTree, Plans, [[(O, [I])]], (3, 3))
        for later in ((3, 2), (-1, 2), (1, 0)):
            self.assertRaises(BadPart, Plans, [[(O, [I])]], later)
        for choice in (((1, 0), [I]), (O, [(1, 0)]), (O, [(2, 1)])):
            self.assertRaises(BadPart, Plans, [[choice]], H)
        self.assertRaises(BadPart, Plans, [[(O, [(3, 2), (-1, 2)])], [(O, [H, H])]], H)

    def test_worth_of(self):
        for places, later, plans in all_plans():
            values = [small(Fraction(7, place + 2) - 1) for place in range(len(places))]
            for place, choices in enumerate(places):
                for number, (pay, row) in enumerate(choices):
                    mean = sum(Fraction(*chance) * Fraction(*value) for chance, value in zip(row, values))
                    self.assertEqual(plans.worth_of(place, number, values),
                                     small(Fraction(*pay) + Fraction(*later) * mean))

    def test_best_choice(self):
        for places, later, plans in all_plans():
            for values in product((O, (5, 2), (-3, 1)), repeat=len(places)):
                for place, choices in enumerate(places):
                    worths = fractions([plans.worth_of(place, number, values) for number in range(len(choices))])
                    self.assertEqual(plans.best_choice(place, values), worths.index(max(worths)))
        self.assertEqual(Plans(PLACES["alike"], H).best_choice(0, [I]), 0)

    def test_for_steps_by_trying_all_choices(self):
        for places, later, plans in all_plans():
            for count in range(4 if len(places) < 3 else 3):
                worths, numbers = plans.for_steps(count)
                self.assertEqual([type(worths), type(numbers)], [tuple, tuple])
                tried = [stepped(places, later, rows) for rows in product(all_choices(places), repeat=count)]
                self.assertEqual(fractions(worths), [max(column) for column in zip(*tried)])
                if count > 0:
                    ahead = fractions(plans.for_steps(count - 1)[0])
                    for place, number in enumerate(numbers):
                        ways = [Fraction(*pay) + Fraction(*later) * sum(Fraction(*one) * worth for one, worth
                                                                        in zip(row, ahead))
                                for pay, row in places[place]]
                        self.assertEqual(number, ways.index(max(ways)))

    def test_no_steps_and_fewer(self):
        for places, later, plans in all_plans():
            self.assertEqual(plans.for_steps(0), ((O,) * len(places), (0,) * len(places)))
            self.assertRaises(BadTree, plans.for_steps, -1)

    def test_worth_by(self):
        for places, later, plans in all_plans():
            for numbers in all_choices(places):
                found = plans.worth_by(numbers)
                self.assertIs(type(found), tuple)
                self.assertTrue(holds(places, later, numbers, found))
                self.assertEqual(found, tuple(small(one) for one in fractions(found)))
                self.assertEqual(plans.worth_by(list(numbers)), found)
        self.assertEqual(Plans(PLACES["one"], (9, 10)).worth_by([0]), ((30, 1),))

    def test_choices_that_are_not_there(self):
        plans = Plans(PLACES["debts"], H)
        for numbers in ((), (0,), (0, 0, 0), (2, 0), (0, 2), (-1, 0), (0, -1)):
            self.assertRaises(BadTree, plans.worth_by, numbers)
            self.assertRaises(BadTree, check_best, plans, numbers, plans.worth_by((0, 0)))

    def test_best_by_trying_all_choices(self):
        for places, later, plans in all_plans():
            worths, numbers = plans.best()
            self.assertEqual([type(worths), type(numbers)], [tuple, tuple])
            tried = {choices: fractions(plans.worth_by(choices)) for choices in all_choices(places)}
            self.assertEqual(fractions(worths), [max(column) for column in zip(*tried.values())])
            self.assertEqual(plans.worth_by(numbers), worths)
            # No plan is worth more anywhere, for so many steps either: pay that is still to come is bounded.
            for row in tried.values():
                self.assertTrue(all(one <= other for one, other in zip(row, fractions(worths))))

    def test_the_first_choices_stay_where_no_other_is_better(self):
        self.assertEqual(Plans(PLACES["alike"], H).best(), (((2, 1),), (0,)))
        self.assertEqual(Plans(PLACES["better"], H).best(), (((2, 1),), (1,)))
        self.assertEqual(Plans(PLACES["ties"], H).best(), ((I, (2, 1), (2, 1)), (0, 0, 0)))
        # The second and the third are as good, and better than the first.
        self.assertEqual(Plans([[(O, [I]), (I, [I]), (I, [I])]], H).best(), (((2, 1),), (1,)))

    def test_each_place_is_bettered_by_its_first_best_one_where_that_is_better(self):
        for places, later, plans in all_plans():
            numbers = [0] * len(places)
            while True:
                values = fractions(plans.worth_by(numbers))
                further = []
                for place, choices in enumerate(places):
                    ways = fractions([plans.worth_of(place, number, [small(one) for one in values])
                                      for number in range(len(choices))])
                    better = max(ways) > ways[numbers[place]]
                    further.append(ways.index(max(ways)) if better else numbers[place])
                if further == numbers:
                    break
                numbers = further
            self.assertEqual(plans.best()[1], tuple(numbers))

    def test_papers_are_taken_just_where_no_choice_betters_them(self):
        for places, later, plans in all_plans():
            best = plans.best()[0]
            for numbers in all_choices(places):
                worths = plans.worth_by(numbers)
                if worths == best:
                    self.assertEqual(check_best(plans, numbers, worths), worths)
                    self.assertEqual(check_best(plans, list(numbers), list(worths)), worths)
                    self.assertIs(type(check_best(plans, numbers, list(worths))), tuple)
                else:
                    self.assertRaises(BadPaper, check_best, plans, numbers, worths)
                    self.assertRaises(BadPaper, check_best, plans, numbers, best)
                for wrong in (worths[:-1], (*worths, O), (), tuple(small(one + 1) for one in fractions(worths))):
                    self.assertRaises(BadPaper, check_best, plans, numbers, wrong)


def best_taking(spread, steps):
    """Return the most that is won by taking what is drawn or letting it go, over all plans of least takings."""
    rows = [(value, Fraction(*spread.chance(value))) for value in spread.numbers()]
    if steps == 1:
        return sum(value * chance for value, chance in rows)
    further = best_taking(spread, steps - 1)
    lots = product((True, False), repeat=len(rows))
    return max(sum(chance * (value if take else further) for take, (value, chance) in zip(lot, rows)) for lot in lots)


class TakingTest(unittest.TestCase):
    def test_by_trying_all(self):
        for spread in (even([1, 2, 3, 4, 5, 6]), even([-3, 0, 4]), sure(2), sure(-1), Spread({-5: 3, -2: 1, 1: 2, 9: 1})):
            found = stop_values(spread, 4)
            self.assertIs(type(found), tuple)
            self.assertEqual(found, tuple(small(best_taking(spread, steps)) for steps in (1, 2, 3, 4)))
            self.assertEqual(stop_values(spread, 1), (spread.mean(),))
            self.assertEqual(stop_values(spread, 2), found[:2])
            self.assertEqual(stop_values(spread, 0), ())

    def test_dice(self):
        self.assertEqual(stop_values(even([1, 2, 3, 4, 5, 6]), 3), ((7, 2), (17, 4), (14, 3)))


def best_staked(chance, have, goal, rounds):
    """Return the greatest chance to have a goal within so many rounds, by trying all stakes of one and more."""
    if have == goal or have == 0 or rounds == 0:
        return Fraction(have == goal)
    return max(chance * best_staked(chance, have + stake, goal, rounds - 1)
               + (1 - chance) * best_staked(chance, have - stake, goal, rounds - 1)
               for stake in range(1, min(have, goal - have) + 1))


class StakesTest(unittest.TestCase):
    def test_by_trying_all_stakes(self):
        for chance, goal, rounds in product((O, Q, (2, 5), H, T2, I), range(1, 7), range(5)):
            found = stakes(chance, goal, rounds)
            self.assertIs(type(found), tuple)
            self.assertEqual(found, tuple(small(best_staked(Fraction(*chance), have, goal, rounds))
                                          for have in range(goal + 1)))

    def test_ends_and_examples(self):
        self.assertEqual(stakes(H, 1, 0), (O, I))
        self.assertEqual(stakes((2, 4), 4, 2), (O, Q, H, (3, 4), I))
        self.assertEqual(stakes(I, 5, 2), (O, O, I, I, I, I))
        self.assertEqual(stakes(O, 3, 9), (O, O, O, I))
        for rounds in range(6):
            self.assertEqual([stakes(T, 4, rounds)[0], stakes(T, 4, rounds)[4]], [O, I])

    def test_stakes_that_are_refused(self):
        for goal, rounds in ((0, 1), (-1, 1), (1, -1), (3, -2)):
            self.assertRaises(BadTree, stakes, H, goal, rounds)
        for chance in ((3, 2), (-1, 2), (1, 0)):
            self.assertRaises(BadPart, stakes, chance, 3, 1)

    def test_ruin(self):
        for chance, goal in product((H, T, T2, (9, 10), (1, 10), (2, 4)), range(1, 7)):
            rows = [[O] * (goal + 1) for have in range(goal + 1)]
            win = Fraction(*chance)
            for have in range(goal + 1):
                if have in (0, goal):
                    rows[have][have] = I
                else:
                    rows[have][have + 1], rows[have][have - 1] = small(win), small(1 - win)
            ends = Walk(rows).ends_in([goal])
            self.assertEqual(tuple(ruin(chance, have, goal) for have in range(goal + 1)), ends)

    def test_ruin_ends_and_examples(self):
        self.assertEqual([ruin(H, have, 3) for have in range(4)], [O, T, T2, I])
        self.assertEqual([ruin(T2, have, 2) for have in range(3)], [O, T2, I])
        self.assertEqual(ruin(T, 1, 3), (1, 7))
        self.assertEqual(ruin(T, 50, 100), (1, 2 ** 50 + 1))

    def test_ruin_that_is_refused(self):
        for have, goal in ((-1, 3), (4, 3), (0, 0), (0, -1), (1, 0), (-1, -1)):
            self.assertRaises(BadTree, ruin, H, have, goal)
            self.assertRaises(BadTree, ruin, T, have, goal)
        for chance in (O, I, (0, 5), (3, 3)):
            self.assertRaises(BadTree, ruin, chance, 1, 3)
        for chance in ((3, 2), (-1, 2), (1, 0)):
            self.assertRaises(BadPart, ruin, chance, 1, 3)
