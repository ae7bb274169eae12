"""Tests of luckwright.beliefs: point [17], held against adding all cases and trying all rows and machines."""

import unittest
from fractions import Fraction
from itertools import permutations, product

from luckwright.beliefs import Beliefs, after, best_of, next_yes, odds, two_machines, two_ways
from luckwright.errors import BadPart, BadSize, BadSpread, NoChance
from luckwright.parts import over

O, I, H, T, T2, Q = (0, 1), (1, 1), (1, 2), (1, 3), (2, 3), (1, 4)
ROWS = ([("a", I)], [("a", H), ("b", H)], [("b", T), ("a", T2)], [("a", Q), ("b", H), ("c", Q)],
        (("c", O), ("a", T), ("b", T2)), [(2, H), ((1, "x"), H)])
CHANCES = (O, T, H, I)
NO_CHANCES = ((3, 2), (-1, 2), (1, 0))


def small(value):
    """Return a Fraction as a part."""
    return Fraction(value).numerator, Fraction(value).denominator


def changed(rows, chances):
    """Return the rows behind something seen, by adding all cases; None where it can't be."""
    both = [Fraction(*chance) * Fraction(*one) for (name, chance), one in zip(rows, chances)]
    if sum(both) == 0:
        return None
    return tuple((name, small(one / sum(both))) for (name, chance), one in zip(rows, both))


class BeliefsTest(unittest.TestCase):
    def test_rows(self):
        rows = [["a", (2, 4)], ("b", (3, 6))]
        beliefs = Beliefs(rows)
        self.assertEqual(beliefs.rows, (("a", H), ("b", H)))
        self.assertEqual([type(one) for one in (beliefs.rows, *beliefs.rows)], [tuple] * 3)
        self.assertEqual(beliefs.shown(), beliefs.rows)
        rows[0][0] = "c"
        rows.clear()
        self.assertEqual(beliefs.shown(), (("a", H), ("b", H)))

    def test_rows_that_are_refused(self):
        for rows in ([], [("a", H)], [("a", O)], [("a", H), ("b", T)], [("a", H), ("a", H)], [("a", I), ("a", O)],
                     [("a", I), ("b", I)], [("a", T), ("b", T), ("a", T)]):
            self.assertRaises(BadSpread, Beliefs, rows)
        for chance in NO_CHANCES:
            self.assertRaises(BadPart, Beliefs, [("a", chance), ("b", H)])
        self.assertRaises(BadPart, Beliefs, [("a", (3, 2)), ("b", (-1, 2))])

    def test_chance_and_likeliest(self):
        for rows in ROWS:
            beliefs = Beliefs(rows)
            self.assertEqual([beliefs.chance(name) for name, chance in rows], [chance for name, chance in rows])
            for name in ("z", "", None, 0):
                self.assertEqual(beliefs.chance(name), O)
            most = max(Fraction(*chance) for name, chance in rows)
            self.assertEqual(beliefs.likeliest(), next(name for name, chance in rows if Fraction(*chance) == most))
        self.assertEqual(Beliefs([("b", T), ("a", T), ("c", T)]).likeliest(), "b")

    def test_seen_and_before_add_all_cases(self):
        for rows in ROWS:
            beliefs = Beliefs(rows)
            for chances in product(CHANCES, repeat=len(rows)):
                due = changed(rows, chances)
                whole = sum(Fraction(*chance) * Fraction(*one) for (name, chance), one in zip(rows, chances))
                self.assertEqual(beliefs.before(chances), small(whole))
                if due is None:
                    self.assertRaises(NoChance, beliefs.seen, chances)
                else:
                    found = beliefs.seen(list(chances))
                    self.assertIsInstance(found, Beliefs)
                    self.assertEqual(found.shown(), due)
                self.assertEqual(beliefs.shown(), tuple(tuple(row) for row in rows))

    def test_signs_in_whatever_order(self):
        beliefs = Beliefs(ROWS[3])
        signs = [(T, H, I), (H, O, Q), (I, T2, T), (Q, H, H)]
        found = set()
        for order in permutations(signs):
            here, chance = beliefs, I
            for sign in order:
                chance = small(Fraction(*chance) * Fraction(*here.before(sign)))
                here = here.seen(sign)
            found.add((here.shown(), chance))
        cases = [(name, Fraction(*chance)) for name, chance in ROWS[3]]
        for sign in signs:
            cases = [(name, chance * Fraction(*one)) for (name, chance), one in zip(cases, sign)]
        whole = sum(chance for name, chance in cases)
        self.assertEqual(found, {(tuple((name, small(chance / whole)) for name, chance in cases), small(whole))})

    def test_rows_of_another_length(self):
        beliefs = Beliefs(ROWS[1])
        for chances in ([], [H], [H, H, H]):
            for ask in (beliefs.seen, beliefs.before, beliefs.mean):
                self.assertRaises(BadSpread, ask, chances)
            self.assertRaises(BadSpread, after, beliefs, chances, 2, 1)
        for chance in NO_CHANCES:
            self.assertRaises(BadPart, beliefs.seen, [H, chance])
            self.assertRaises(BadPart, beliefs.before, [H, chance])
            self.assertRaises(BadPart, after, beliefs, [chance, H], 2, 1)
        self.assertRaises(NoChance, beliefs.seen, [O, O])
        self.assertEqual(beliefs.before([O, O]), O)

    def test_mean(self):
        for rows in ROWS:
            for values in product((O, (-7, 2), (5, 1)), repeat=len(rows)):
                due = sum(Fraction(*chance) * Fraction(*value) for (name, chance), value in zip(rows, values))
                self.assertEqual(Beliefs(rows).mean(values), small(due))

    def test_after(self):
        for rows in ROWS[:5]:
            for yes in product(CHANCES, repeat=len(rows)):
                for many in range(4):
                    for good in range(many + 1):
                        likely = [Fraction(*one) ** good * (1 - Fraction(*one)) ** (many - good) for one in yes]
                        due = changed(rows, [small(one) for one in likely])
                        if due is None:
                            self.assertRaises(NoChance, after, Beliefs(rows), yes, many, good)
                        else:
                            self.assertEqual(after(Beliefs(rows), yes, many, good).shown(), due)
        self.assertEqual(after(Beliefs(ROWS[1]), [T, T2], 0, 0).shown(), tuple(ROWS[1]))
        self.assertEqual(after(Beliefs(ROWS[1]), [T, T2], 2, 2).shown(), (("a", (1, 5)), ("b", (4, 5))))
        self.assertEqual(after(Beliefs(ROWS[1]), [T, T2], 2, 1).shown(), (("a", H), ("b", H)))

    def test_after_that_is_refused(self):
        for many, good in ((0, 1), (2, 3), (2, -1), (-1, -1), (-1, 0)):
            self.assertRaises(BadSize, after, Beliefs(ROWS[1]), [T, T2], many, good)
        self.assertRaises(NoChance, after, Beliefs(ROWS[1]), [O, O], 3, 1)
        self.assertRaises(NoChance, after, Beliefs(ROWS[1]), [O, I], 2, 1)


def chance_of_row(row, yes):
    """Return the chance of a row of yeses and noes, each yes by a chance."""
    found = Fraction(1)
    for one in row:
        found *= yes if one else 1 - yes
    return found


def tried_ways(first, second, ends, most):
    """Return two_ways' answer by going through all rows of tries."""
    first, second = Fraction(*first), Fraction(*second)
    low, high = (Fraction(*end) for end in ends)
    found = [Fraction(0)] * 3
    for row in product((True, False), repeat=most):
        end = 2
        for count in range(1, most + 1):
            here = chance_of_row(row[:count], second) / chance_of_row(row[:count], first)
            if here <= low or here >= high:
                end = 0 if here <= low else 1
                break
        found[end] += chance_of_row(row, first)
    return tuple(small(one) for one in found)


class WaysTest(unittest.TestCase):
    def test_by_trying_all_rows(self):
        # With these chances odds of just a half, two thirds, three halves, two and so on are met.
        ends = (((1, 2), (2, 1)), (T, (3, 1)), ((9, 20), (21, 10)), (T2, (3, 2)), (O, (4, 1)), ((2, 1), (3, 1)),
                (Q, H), ((-1, 1), (1, 1)))
        for first, second, pair, most in product((T, H, (3, 5)), (H, T2, Q), ends, (0, 1, 2, 5)):
            found = two_ways(first, second, pair, most)
            self.assertIs(type(found), tuple)
            self.assertEqual(found, tried_ways(first, second, pair, most))

    def test_ends_just_met(self):
        self.assertEqual(two_ways(T, T2, (H, (2, 1)), 1), (T2, T, O))
        self.assertEqual(two_ways(T, T2, ((49, 100), (2, 1)), 1), (O, T, T2))
        self.assertEqual(two_ways(T, T2, (H, (201, 100)), 1), (T2, O, T))
        self.assertEqual(two_ways(T, T2, ((49, 100), (201, 100)), 1), (O, O, I))

    def test_no_tries_end_nothing(self):
        # The odds are looked at behind each try only, though they lie outside of the ends ahead of all.
        self.assertEqual(two_ways(T, T2, ((2, 1), (3, 1)), 0), (O, O, I))
        self.assertEqual(two_ways(T, T2, (Q, T), 0), (O, O, I))
        self.assertEqual(two_ways(H, H, (H, (2, 1)), 7), (O, O, I))
        self.assertEqual(two_ways(H, H, (I, (2, 1)), 3), (I, O, O))
        self.assertEqual(two_ways(H, H, (H, I), 3), (O, I, O))

    def test_ways_that_are_refused(self):
        for ends in ((H, H), ((2, 1), H), ((1, 2), (2, 4))):
            self.assertRaises(BadSize, two_ways, T, T2, ends, 3)
        self.assertRaises(BadSize, two_ways, T, T2, (H, (2, 1)), -1)
        for sure in (O, I, (0, 3), (4, 4)):
            self.assertRaises(BadSize, two_ways, sure, T2, (H, (2, 1)), 3)
            self.assertRaises(BadSize, two_ways, T, sure, (H, (2, 1)), 0)
        for chance in NO_CHANCES:
            self.assertRaises(BadPart, two_ways, chance, T2, (H, (2, 1)), 3)
            self.assertRaises(BadPart, two_ways, T, chance, (H, (2, 1)), 3)

    def test_odds(self):
        for first, second, many in product((T, H, (3, 5)), (O, H, T2, I), range(5)):
            for good in range(many + 1):
                row = [True] * good + [False] * (many - good)
                due = chance_of_row(row, Fraction(*second)) / chance_of_row(row, Fraction(*first))
                self.assertEqual(odds(first, second, many, good), small(due))
        self.assertRaises(BadPart, odds, O, H, 2, 1)
        self.assertEqual(odds(O, H, 2, 0), Q)

    def test_next_yes(self):
        # All chances of yes alike: k steps of a fine row of chances come near what is told.
        for many in range(6):
            for good in range(many + 1):
                likely = [(at / 1000) ** good * (1 - at / 1000) ** (many - good) for at in range(1001)]
                due = sum(one * at / 1000 for at, one in enumerate(likely)) / sum(likely)
                self.assertAlmostEqual(float(Fraction(*next_yes(many, good))), due, 2)
                self.assertEqual(next_yes(many, good), small(Fraction(good + 1, many + 2)))
        for many, good in ((0, 1), (3, 4), (3, -1), (-1, 0), (-1, -1)):
            self.assertRaises(BadSize, next_yes, many, good)


def best_tried(seen, left):
    """Return the greatest mean of yeses in the tries left by trying both machines each time, and the first best one."""
    if left == 0:
        return Fraction(0), 0
    worths = []
    for machine in (0, 1):
        good, bad = seen[machine]
        yes = Fraction(good + 1, good + bad + 2)
        with_yes = tuple((good + 1, bad) if at == machine else one for at, one in enumerate(seen))
        with_no = tuple((good, bad + 1) if at == machine else one for at, one in enumerate(seen))
        worths.append(yes * (1 + best_tried(with_yes, left - 1)[0]) + (1 - yes) * best_tried(with_no, left - 1)[0])
    return max(worths), worths.index(max(worths))


class MachinesTest(unittest.TestCase):
    def test_by_trying_all(self):
        for counts in product(range(3), repeat=4):
            seen = (counts[:2], counts[2:])
            for left in range(4):
                worth, machine = best_tried(seen, left)
                self.assertEqual(two_machines(seen, left), (small(worth), machine))
                self.assertEqual(two_machines([list(seen[0]), seen[1]], left), (small(worth), machine))
                self.assertEqual(best_of({}, seen, left), (small(worth), machine))

    def test_examples(self):
        self.assertEqual(two_machines(((5, 0), (0, 7)), 0), (O, 0))
        self.assertEqual(two_machines(((0, 7), (5, 0)), 0), (O, 0))
        self.assertEqual(two_machines(((0, 0), (0, 0)), 1), (H, 0))
        self.assertEqual(two_machines(((0, 0), (1, 0)), 1), (T2, 1))
        # Both are alike likely next; what is less known is worth more to try.
        self.assertEqual(two_machines(((1, 1), (0, 0)), 2)[1], 1)
        self.assertIs(type(two_machines(((1, 1), (0, 0)), 2)), tuple)

    def test_a_row_that_was_seen_is_handed_in_unchanged(self):
        seen = [[1, 0], [0, 1]]
        two_machines(seen, 3)
        self.assertEqual(seen, [[1, 0], [0, 1]])

    def test_answers_are_kept_in_a_table(self):
        table = {}
        found = best_of(table, ((1, 0), (0, 0)), 3)
        self.assertIn(found, table.values())
        kept = dict(table)
        self.assertEqual(best_of(table, ((1, 0), (0, 0)), 3), found)
        self.assertEqual(table, kept)
        self.assertEqual(best_of(table, ((1, 0), (0, 0)), 2), two_machines(((1, 0), (0, 0)), 2))

    def test_machines_that_are_refused(self):
        self.assertRaises(BadSize, two_machines, ((0, 0), (0, 0)), -1)
        for place in range(4):
            counts = [0, 0, 0, 0]
            counts[place] = -1
            for left in (0, 2):
                self.assertRaises(BadSize, two_machines, (tuple(counts[:2]), tuple(counts[2:])), left)

    def test_next_yes_is_a_mean_by_beliefs(self):
        names = [(Fraction(at, 40), (1, 41)) for at in range(41)]
        beliefs = Beliefs(names)
        yes = [small(name) for name, chance in names]
        found = after(beliefs, yes, 3, 2).mean(yes)
        self.assertAlmostEqual(float(Fraction(*found)), float(Fraction(*next_yes(3, 2))), 2)
        self.assertEqual(over(after(beliefs, yes, 3, 3).before(yes), I), after(beliefs, yes, 3, 3).mean(yes))
