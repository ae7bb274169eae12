"""Tests of luckwright.cups: point [18], held against adding all results, games and points, and trying all draws."""

import unittest
from fractions import Fraction
from itertools import combinations, permutations, product

from luckwright import cups
from luckwright.errors import BadPart, BadSize, BadTree

O, I, H, T, T2, Q, Q3 = (0, 1), (1, 1), (1, 2), (1, 3), (2, 3), (1, 4), (3, 4)
NO_CHANCES = ((3, 2), (-1, 2), (1, 0))
EVEN = [[None if one == other else H for other in range(4)] for one in range(4)]
ONE = [[H]]
TWO = [[None, T], [T2, None]]
THREE = [[H, T, I], [T2, None, Q], [O, Q3, O]]
FOUR = [[None, T, H, (4, 5)], [T2, None, Q, I], [H, Q3, None, (3, 5)], [(1, 5), O, (2, 5), None]]
# The first beats the second, the second the third, and the third the first.
ROUND = [[None, I, O], [O, None, I], [I, O, None]]
TABLES = (ONE, TWO, THREE, FOUR, ROUND, EVEN)


def small(value):
    """Return a Fraction as a part."""
    return Fraction(value).numerator, Fraction(value).denominator


def all_results(table):
    """Return (who wins by pair, chance) of all results when each plays each once."""
    pairs = list(combinations(range(len(table)), 2))
    found = []
    for winners in product(*pairs):
        chance = Fraction(1)
        for (one, other), winner in zip(pairs, winners):
            chance *= Fraction(*table[winner][other if winner == one else one])
        found.append((dict(zip(pairs, winners)), chance))
    return found


def added(table, test):
    """Return the chance of all results of which a function tells True."""
    return small(sum(chance for results, chance in all_results(table) if test(results)))


def cup_winner(results, draw):
    """Return who wins a knock-out by all results."""
    left = list(draw)
    while len(left) > 1:
        left = [results[tuple(sorted(left[at:at + 2]))] for at in range(0, len(left), 2)]
    return left[0]


def first_alone(results, many):
    """Return who alone has the most wins by all results, None for several."""
    wins = [list(results.values()).count(one) for one in range(many)]
    return wins.index(max(wins)) if wins.count(max(wins)) == 1 else None


class ResultsTest(unittest.TestCase):
    def test_results_are_made_small(self):
        found = cups.check_results([[(2, 4), (2, 6)], ((4, 6), None)])
        self.assertEqual(found, [(H, T), (T2, None)])
        self.assertIs(type(found), list)
        self.assertEqual(cups.check_results([[None]]), [(None,)])
        self.assertEqual(cups.check_results([[(0, 7)]]), [(O,)])
        self.assertEqual(cups.check_results(THREE), [tuple(row) for row in THREE])
        self.assertEqual(cups.check_results([]), [])

    def test_what_is_handed_in_stays(self):
        table = [[(2, 4), (2, 6)], [(4, 6), None]]
        found = cups.check_results(table)
        self.assertEqual(table, [[(2, 4), (2, 6)], [(4, 6), None]])
        table[0][0] = None
        self.assertEqual(found[0][0], H)

    def test_tables_that_are_refused(self):
        asks = (cups.check_results, lambda table: cups.knock_out(table, [0, 1]), cups.league,
                lambda table: cups.best_draw(table, 0))
        for table in ([[]], [[H, H]], [[None, H], [H]], [[None], [None]], [[None, H], [H, None, H]],
                      [[None, None], [H, None]], [[None, H], [None, None]], [[None, None], [None, None]],
                      [[None, H], [T, None]], [[None, I], [I, None]], [[None, O], [O, None]],
                      [[None, H, H], [H, None, H], [H, T, None]], [[None, H], [H, None], [H, H]]):
            for ask in asks:
                self.assertRaises(BadTree, ask, table)
        for chance in NO_CHANCES:
            for ask in asks:
                self.assertRaises(BadPart, ask, [[None, chance], [H, None]])
                self.assertRaises(BadPart, ask, [[None, H], [H, chance]])
        self.assertRaises(BadPart, cups.check_results, [[None, (3, 2)], [(-1, 2), None]])


class KnockOutTest(unittest.TestCase):
    def test_by_adding_all_results(self):
        for table in (ONE, TWO, FOUR, EVEN):
            for draw in permutations(range(len(table))):
                found = cups.knock_out(table, draw)
                self.assertIs(type(found), tuple)
                self.assertEqual(found, cups.knock_out(table, list(draw)))
                due = [added(table, lambda results, one=one: cup_winner(results, draw) == one)
                       for one in range(len(table))]
                self.assertEqual(found, tuple(due))

    def test_eight(self):
        table = [[None if one == other else (H if one > other else H) for other in range(8)] for one in range(8)]
        self.assertEqual(cups.knock_out(table, range(8)), ((1, 8),) * 8)
        strong = [[None if one == other else (I if one < other else O) for other in range(8)] for one in range(8)]
        for draw in ((0, 1, 2, 3, 4, 5, 6, 7), (7, 3, 0, 5, 6, 1, 2, 4)):
            self.assertEqual(cups.knock_out(strong, draw), (I,) + (O,) * 7)

    def test_draws_that_are_refused(self):
        for table, draw in ((TWO, [0]), (TWO, []), (TWO, [0, 0]), (TWO, [1, 2]), (TWO, [0, 1, 2]), (THREE, [0, 1, 2]),
                            (FOUR, [0, 1, 2]), (FOUR, [0, 1, 2, 2]), (FOUR, [0, 1, 2, 4]), (FOUR, [-1, 0, 1, 2]),
                            ([], []), (ONE, [1]), (ONE, [])):
            self.assertRaises(BadSize, cups.knock_out, table, draw)

    def test_met(self):
        rows = cups.check_results(FOUR)
        mine, theirs = ((0, T), (1, T2)), ((2, H), (3, H))
        found = cups.met(rows, mine, theirs)
        self.assertEqual(found, ((0, small(Fraction(1, 3) * (Fraction(1, 2) * Fraction(1, 2) + Fraction(2, 5)))),
                                 (1, small(Fraction(2, 3) * (Fraction(1, 4) * Fraction(1, 2) + Fraction(1, 2))))))
        self.assertEqual([type(one) for one in (found, *found)], [tuple] * 3)
        self.assertEqual(cups.met(rows, [(3, I)], [(1, I)]), ((3, O),))
        both = cups.met(rows, mine, theirs) + cups.met(rows, theirs, mine)
        self.assertEqual(sum(Fraction(*chance) for one, chance in both), 1)

    def test_is_two(self):
        twos = [number for number in range(-8, 70) if cups.is_two(number)]
        self.assertEqual(twos, [1, 2, 4, 8, 16, 32, 64])
        self.assertIs(cups.is_two(2 ** 80), True)
        self.assertIs(cups.is_two(2 ** 80 + 2), False)
        self.assertIs(cups.is_two(0), False)

    def test_best_draw_by_trying_all(self):
        for table in (ONE, TWO, FOUR, EVEN):
            for one in range(len(table)):
                chances = {draw: Fraction(*cups.knock_out(table, draw)[one]) for draw in permutations(range(len(table)))}
                found = cups.best_draw(table, one)
                self.assertIs(type(found), tuple)
                self.assertEqual(found, min(draw for draw in chances if chances[draw] == max(chances.values())))

    def test_best_draws_that_are_refused(self):
        five = [[None if one == other else H for other in range(5)] for one in range(5)]
        for table, one in ((five, 0), (TWO, 2), (TWO, -1), ([], 0), (THREE, 0), (FOUR, 4), (ONE, 1)):
            self.assertRaises(BadSize, cups.best_draw, table, one)


class LeagueTest(unittest.TestCase):
    def test_by_adding_all_results(self):
        five = [[None if one == other else ((one + 1, one + other + 2)) for other in range(5)] for one in range(5)]
        for table in (*TABLES, five):
            found = cups.league(table)
            self.assertIs(type(found), tuple)
            due = [added(table, lambda results, one=one: first_alone(results, len(table)) == one)
                   for one in range(len(table))]
            self.assertEqual(found, tuple(due))

    def test_examples(self):
        self.assertEqual(cups.league(ONE), (I,))
        self.assertEqual(cups.league(TWO), (T, T2))
        self.assertEqual(cups.league(ROUND), (O, O, O))
        self.assertEqual(cups.league(EVEN), ((1, 8),) * 4)

    def test_more_than_five(self):
        self.assertRaises(BadSize, cups.league, [[None if one == other else H for other in range(6)] for one in range(6)])


def raced(chance, mine, theirs):
    """Return the chance to win a race, point by point."""
    if mine == 0 or theirs == 0:
        return Fraction(mine == 0)
    return chance * raced(chance, mine - 1, theirs) + (1 - chance) * raced(chance, mine, theirs - 1)


class RaceTest(unittest.TestCase):
    def test_by_adding_all_points(self):
        for chance, mine, theirs in product((O, Q, H, (2, 3), I), range(6), range(6)):
            if mine + theirs == 0:
                continue
            due = raced(Fraction(*chance), mine, theirs)
            self.assertEqual(cups.race(chance, mine, theirs), small(due))
            self.assertEqual(cups.fair_share(chance, mine, theirs), (small(due), small(1 - due)))
            self.assertIs(type(cups.fair_share(chance, mine, theirs)), tuple)

    def test_nought_points_needed(self):
        for chance in (O, H, I):
            for points in (1, 2, 9):
                self.assertEqual(cups.race(chance, 0, points), I)
                self.assertEqual(cups.race(chance, points, 0), O)
                self.assertEqual(cups.fair_share(chance, 0, points), (I, O))
                self.assertEqual(cups.fair_share(chance, points, 0), (O, I))
        self.assertEqual(cups.fair_share(H, 1, 2), (Q3, Q))

    def test_races_that_are_refused(self):
        for mine, theirs in ((0, 0), (-1, 2), (2, -1), (-1, 1), (0, -1), (-1, 0), (-1, -1)):
            self.assertRaises(BadSize, cups.race, H, mine, theirs)
            self.assertRaises(BadSize, cups.fair_share, H, mine, theirs)
        for chance in NO_CHANCES:
            for mine, theirs in ((1, 1), (0, 2), (2, 0)):
                self.assertRaises(BadPart, cups.race, chance, mine, theirs)
                self.assertRaises(BadPart, cups.fair_share, chance, mine, theirs)

    def test_series_by_adding_all_games(self):
        for chance, wins in product((O, Q, H, (2, 3), I), range(1, 5)):
            due = dict.fromkeys(range(wins, 2 * wins), Fraction(0))
            for row in product((True, False), repeat=2 * wins - 1):
                games = next(count for count in range(1, 2 * wins) if wins in (row[:count].count(True),
                                                                              row[:count].count(False)))
                share = Fraction(1)
                for won in row:
                    share *= Fraction(*chance) if won else 1 - Fraction(*chance)
                due[games] += share
            found = cups.series(chance, wins)
            self.assertIs(type(found), dict)
            self.assertEqual(found, {games: small(share) for games, share in due.items()})

    def test_series_examples(self):
        self.assertEqual(cups.series(H, 1), {1: I})
        self.assertEqual(cups.series(H, 2), {2: H, 3: H})
        self.assertEqual(cups.series(I, 3), {3: I, 4: O, 5: O})
        for wins in (0, -1):
            self.assertRaises(BadSize, cups.series, H, wins)
        for chance in NO_CHANCES:
            self.assertRaises(BadPart, cups.series, chance, 2)
