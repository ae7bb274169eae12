"""Tests of luckwright.walks: point [6], and of point [21] a walk's fields, held against trying all ways and steps."""

import unittest
from fractions import Fraction
from itertools import product
from math import gcd

from luckwright.errors import BadPaper, BadPart, BadSize, BadTree
from luckwright.walks import Walk, back, check_ends, pooled, visits

O, I, H, T, T2 = (0, 1), (1, 1), (1, 2), (1, 3), (2, 3)
ROWS = {
    1: [(I,)],
    2: [(I, O), (O, I), (H, H), (T, T2), (T2, T)],
    3: [(I, O, O), (O, I, O), (O, O, I), (H, H, O), (H, O, H), (O, H, H), (T, T, T), (O, T2, T)],
}
WALKS = [Walk(rows) for many in (1, 2, 3) for rows in product(ROWS[many], repeat=many)]
STAYS = Walk([(I, O), (O, I)])
SWAPS = Walk([(O, I), (I, O)])
# From one to three luck alone tells: nought and four are never left.
LINE = Walk([(I, O, O, O, O), (H, O, H, O, O), (O, H, O, H, O), (O, O, H, O, H), (O, O, O, O, I)])


def small(value):
    """Return a Fraction as a part."""
    return Fraction(value).numerator, Fraction(value).denominator


def fractions(rows):
    """Return parts as Fractions."""
    return [Fraction(*one) for one in rows]


def reaches(walk):
    """Return, for each count of steps up to fifteen, the lots of places come to from each place in just so many."""
    found = [[{place} for place in range(walk.many)]]
    for _ in range(15):
        found.append([{other for here in lot for other in range(walk.many) if walk.rows[here][other][0] > 0}
                      for lot in found[-1]])
    return found


def ever(walk, place):
    """Return the places come to from a place in any count of steps."""
    return set().union(*[lots[place] for lots in reaches(walk)])


def ways_chance(walk, way):
    """Return the chance of a way, its steps' chances multiplied."""
    found = Fraction(1)
    for here, there in zip(way, way[1:]):
        found *= Fraction(*walk.rows[here][there])
    return found


def lots_of(walk):
    """Return all lots of a walk's places, the bare one too."""
    return [[place for place in range(walk.many) if bits >> place & 1] for bits in range(2 ** walk.many)]


class WalkTest(unittest.TestCase):
    def test_fields(self):
        walk = Walk([[(2, 4), (3, 6)], ((0, 5), (7, 7))])
        self.assertEqual(walk.rows, [((1, 2), (1, 2)), ((0, 1), (1, 1))])
        self.assertIs(type(walk.rows), list)
        self.assertEqual([type(row) for row in walk.rows], [tuple, tuple])
        self.assertEqual(walk.many, 2)

    def test_rows_handed_in_are_neither_changed_nor_kept(self):
        rows = [[(2, 4), (3, 6)], [(0, 5), (7, 7)]]
        walk = Walk(rows)
        self.assertEqual(rows, [[(2, 4), (3, 6)], [(0, 5), (7, 7)]])
        rows[0][0] = (1, 1)
        rows.clear()
        self.assertEqual(walk.rows, [((1, 2), (1, 2)), ((0, 1), (1, 1))])

    def test_rows_that_are_refused(self):
        for rows in ([], (), [[]], [[H, H]], [[I], [I]], [[H, H], [I]], [[H, H], [I, O, O]]):
            self.assertRaises(BadTree, Walk, rows)
        for row in ([H, T], [O, O], [I, I], [(3, 2), (-1, 2)], [(-1, 1), (2, 1)]):
            self.assertRaises(BadTree, Walk, [row, [H, H]])
            self.assertRaises(BadTree, Walk, [[H, H], row])
        self.assertRaises(BadPart, Walk, [[(1, 0)]])

    def test_after_adds_all_ways(self):
        for walk in WALKS[::7] + [STAYS, SWAPS]:
            for place, count in product(range(walk.many), range(4)):
                ways = [(place, *way) for way in product(range(walk.many), repeat=count)]
                found = walk.after(place, count)
                self.assertIs(type(found), tuple)
                for other in range(walk.many):
                    whole = sum(ways_chance(walk, way) for way in ways if way[-1] == other)
                    self.assertEqual(found[other], small(whole))

    def test_after_many_steps(self):
        self.assertEqual(SWAPS.after(0, 101), (O, I))
        self.assertEqual(Walk([(H, H), (O, I)]).after(0, 100), ((1, 2 ** 100), (2 ** 100 - 1, 2 ** 100)))

    def test_after_out_of_range(self):
        for place, count in ((0, -1), (-1, 0), (2, 0), (-1, 3), (2, 3), (5, -1)):
            self.assertRaises(BadSize, SWAPS.after, place, count)

    def test_reached(self):
        for walk in WALKS + [LINE]:
            for place in range(walk.many):
                found = walk.reached(place)
                self.assertIs(type(found), tuple)
                self.assertEqual(found, tuple(sorted(ever(walk, place))))
                self.assertIn(place, found)

    def test_rings(self):
        for walk in WALKS + [LINE]:
            ways = [ever(walk, place) for place in range(walk.many)]
            lots = {tuple(other for other in range(walk.many) if other in ways[place] and place in ways[other])
                    for place in range(walk.many)}
            self.assertEqual(walk.rings(), tuple(sorted(lots)))
            self.assertEqual({type(ring) for ring in walk.rings()}, {tuple})
        self.assertEqual(LINE.rings(), ((0,), (1, 2, 3), (4,)))

    def test_closed(self):
        for walk in WALKS + [LINE]:
            lots = [ring for ring in walk.rings() if all(ever(walk, place) == set(ring) for place in ring)]
            self.assertEqual(walk.closed(), tuple(lots))
        self.assertEqual(LINE.closed(), ((0,), (4,)))
        self.assertEqual(STAYS.closed(), ((0,), (1,)))

    def test_period(self):
        for walk in WALKS + [LINE]:
            lots = reaches(walk)
            for place in range(walk.many):
                counts = [count for count in range(1, 16) if place in lots[count][place]]
                self.assertEqual(walk.period(place), gcd(*counts))
        self.assertEqual([LINE.period(place) for place in range(5)], [1, 2, 2, 2, 1])
        self.assertEqual(Walk([(O, I), (O, I)]).period(0), 0)

    def test_period_of_rings_of_four_and_six(self):
        rows = [[O] * 8 for place in range(8)]
        rows[0][1] = rows[0][4] = H
        for here, there in ((1, 2), (2, 3), (3, 0), (4, 5), (5, 6), (6, 7), (7, 3)):
            rows[here][there] = I
        walk = Walk(rows)
        self.assertEqual([walk.period(place) for place in range(8)], [2] * 8)


class LongRunTest(unittest.TestCase):
    def test_a_step_keeps_the_long_run(self):
        for walk in WALKS:
            found = walk.long_run()
            if len(walk.closed()) > 1:
                self.assertIsNone(found)
                continue
            self.assertIs(type(found), tuple)
            chances = fractions(found)
            self.assertEqual(sum(chances), 1)
            for place in range(walk.many):
                self.assertEqual(found[place], small(chances[place]))
                self.assertEqual(sum(chances[other] * Fraction(*walk.rows[other][place])
                                     for other in range(walk.many)), chances[place])
                self.assertEqual(chances[place] > 0, place in walk.closed()[0])

    def test_examples(self):
        self.assertEqual(Walk([(I,)]).long_run(), (I,))
        self.assertEqual(SWAPS.long_run(), (H, H))
        self.assertEqual(Walk([(T, T2), (H, H)]).long_run(), ((3, 7), (4, 7)))
        self.assertIsNone(STAYS.long_run())
        self.assertIsNone(LINE.long_run())

    def test_is_fair_back(self):
        for walk in WALKS:
            chances = walk.long_run()
            if chances is None:
                self.assertRaises(BadTree, walk.is_fair_back)
                continue
            flows = [[Fraction(*chances[one]) * Fraction(*walk.rows[one][other]) for other in range(walk.many)]
                     for one in range(walk.many)]
            self.assertIs(walk.is_fair_back(), flows == [list(row) for row in zip(*flows)])
        self.assertIs(Walk([(O, I, O), (O, O, I), (I, O, O)]).is_fair_back(), False)
        self.assertIs(Walk([(O, H, H), (H, O, H), (H, H, O)]).is_fair_back(), True)

    def test_back(self):
        for walk in WALKS:
            chances = walk.long_run()
            if chances is None or O in chances:
                self.assertRaises(BadTree, back, walk)
                continue
            found = back(walk)
            self.assertIsInstance(found, Walk)
            self.assertEqual(found.long_run(), chances)
            self.assertEqual(found.rows == walk.rows, walk.is_fair_back())
            for one, other in product(range(walk.many), repeat=2):
                self.assertEqual(Fraction(*chances[one]) * Fraction(*found.rows[one][other]),
                                 Fraction(*chances[other]) * Fraction(*walk.rows[other][one]))
        self.assertEqual(back(Walk([(O, I, O), (O, O, I), (I, O, O)])).rows, [(O, O, I), (I, O, O), (O, I, O)])
        self.assertRaises(BadTree, back, STAYS)
        self.assertRaises(BadTree, back, Walk([(H, H), (O, I)]))


class EndsTest(unittest.TestCase):
    def test_ends_satisfy_their_sums_and_are_the_least(self):
        for walk in WALKS[::3] + [STAYS, SWAPS]:
            for goals in lots_of(walk):
                found = walk.ends_in(goals)
                self.assertIs(type(found), tuple)
                chances = fractions(found)
                self.assertEqual(found, tuple(small(chance) for chance in chances))
                # By more and more steps: the chances to have come to a goal never pass the told ones, and come near.
                tried = [float(place in goals) for place in range(walk.many)]
                for _ in range(150):
                    tried = [1.0 if place in goals else sum(float(Fraction(*chance)) * tried[other] for other, chance
                             in enumerate(walk.rows[place])) for place in range(walk.many)]
                for place in range(walk.many):
                    mean = sum(Fraction(*chance) * chances[other] for other, chance in enumerate(walk.rows[place]))
                    self.assertEqual(chances[place], 1 if place in goals else mean)
                    self.assertAlmostEqual(float(chances[place]), tried[place], 6)
                    if not ever(walk, place) & set(goals):
                        self.assertEqual(found[place], O)

    def test_ends_of_a_line(self):
        self.assertEqual(LINE.ends_in([4]), (O, (1, 4), H, (3, 4), I))
        self.assertEqual(LINE.ends_in((0, 4)), (I,) * 5)
        self.assertEqual(LINE.ends_in([]), (O,) * 5)
        self.assertEqual(LINE.ends_in([0, 1, 2, 3, 4]), (I,) * 5)
        self.assertEqual(LINE.ends_in([2]), (O, H, I, H, O))
        self.assertEqual(LINE.ends_in([4, 4, 4]), LINE.ends_in([4]))

    def test_steps(self):
        for walk in WALKS[::3] + [STAYS, SWAPS]:
            for goals in lots_of(walk):
                chances, found = walk.ends_in(goals), walk.steps_to(goals)
                self.assertIs(type(found), tuple)
                for place in range(walk.many):
                    if place in goals:
                        self.assertEqual(found[place], O)
                    elif chances[place] != I:
                        self.assertIsNone(found[place])
                    else:
                        mean = sum(Fraction(*chance) * Fraction(*found[other])
                                   for other, chance in enumerate(walk.rows[place]) if chance[0] > 0)
                        self.assertEqual(found[place], small(mean + 1))

    def test_steps_of_a_line(self):
        self.assertEqual(LINE.steps_to([0, 4]), (O, (3, 1), (4, 1), (3, 1), O))
        self.assertEqual(LINE.steps_to([4]), (None, None, None, None, O))
        self.assertEqual(LINE.steps_to([]), (None,) * 5)
        self.assertEqual(Walk([(T2, T), (O, I)]).steps_to([1]), ((3, 1), O))

    def test_papers_of_ends_are_taken(self):
        for walk in WALKS[::5] + [LINE]:
            for goals in lots_of(walk):
                self.assertIs(check_ends(walk, goals, walk.ends_in(goals)), True)
                self.assertIs(check_ends(walk, tuple(goals), [I] * walk.many), True)
        self.assertIs(check_ends(LINE, [4], [(1, 5), (2, 5), (3, 5), (4, 5), I]), True)
        self.assertIs(check_ends(LINE, [4], ((1, 5), H, (3, 4), (9, 10), I)), True)
        self.assertIs(check_ends(LINE, [4], [(2, 1), (2, 1), (2, 1), (2, 1), I]), True)

    def test_papers_of_ends_that_are_refused(self):
        ends = LINE.ends_in([4])
        for chances in (ends[:4], (*ends, I), (), (*ends[:4], T2), (*ends[:4], (2, 1)),
                        ((-1, 5), *ends[1:]), (O, (1, 5), H, (3, 4), I), (O, (1, 4), (4, 9), (3, 4), I),
                        (O, (1, 4), H, T2, I)):
            self.assertRaises(BadPaper, check_ends, LINE, [4], chances)
        self.assertRaises(BadPaper, check_ends, LINE, [0, 4], ends)
        self.assertRaises(BadPaper, check_ends, STAYS, [1], ((-1, 1), I))
        self.assertRaises(BadPaper, check_ends, STAYS, [], ((-1, 1), O))

    def test_a_paper_below_any_end_is_refused(self):
        values = [O, (1, 4), H, (3, 4), I]
        ends = fractions(LINE.ends_in([4]))
        for chances in product(values, repeat=3):
            paper = (O, *chances, I)
            try:
                check_ends(LINE, [4], paper)
            except BadPaper:
                continue
            self.assertTrue(all(one >= other for one, other in zip(fractions(paper), ends)))


class LotsTest(unittest.TestCase):
    def test_pooled(self):
        walk = Walk([(H, T, (1, 6)), ((1, 5), (4, 5), O), ((1, 5), H, (3, 10))])
        found = pooled(walk, [[0], [1, 2]])
        self.assertIsInstance(found, Walk)
        self.assertEqual(found.rows, [(H, H), ((1, 5), (4, 5))])
        self.assertEqual(pooled(walk, ((2, 1), (0,))).rows, [((4, 5), (1, 5)), (H, H)])
        self.assertEqual(pooled(walk, [[0, 1, 2]]).rows, [(I,)])
        self.assertEqual(pooled(walk, [[2], [0], [1]]).rows,
                         [((3, 10), (1, 5), H), ((1, 6), H, T), (O, (1, 5), (4, 5))])

    def test_pooled_by_trying_all_places(self):
        for walk in [walk for walk in WALKS if walk.many == 3][::5]:
            for lots in ([[0], [1, 2]], [[0, 1], [2]], [[1], [2, 0]]):
                ways = [[[sum(Fraction(*walk.rows[place][other]) for other in lot) for lot in lots] for place in one]
                        for one in lots]
                if all(way == one[0] for one in ways for way in one):
                    rows = [tuple(small(chance) for chance in one[0]) for one in ways]
                    self.assertEqual(pooled(walk, lots).rows, rows)
                else:
                    self.assertRaises(BadTree, pooled, walk, lots)

    def test_lots_that_are_refused(self):
        walk = Walk([(T, T, T)] * 3)
        for lots in ([], [[]], [[0], [1]], [[0, 1], [1, 2]], [[0, 0], [1, 2]], [[0], [1, 2], []], [[0, 1, 2, 3]],
                     [[-1, 0, 1, 2]], [[1, 2]], [[0, 1], [3]]):
            self.assertRaises(BadTree, pooled, walk, lots)
        self.assertRaises(BadTree, pooled, LINE, [[0, 1], [2], [3, 4]])

    def test_visits(self):
        for walk in WALKS[::9] + [LINE]:
            for place, count in product(range(walk.many), range(5)):
                found = visits(walk, place, count)
                self.assertIs(type(found), tuple)
                rows = [fractions(walk.after(place, number)) for number in range(count + 1)]
                self.assertEqual(found, tuple(small(sum(row)) for row in zip(*rows)))
        self.assertEqual(visits(SWAPS, 0, 0), (I, O))
        self.assertEqual(visits(SWAPS, 0, 4), ((3, 1), (2, 1)))

    def test_visits_out_of_range(self):
        for place, count in ((0, -1), (-1, 0), (2, 0), (2, -1), (-1, 2)):
            self.assertRaises(BadSize, visits, SWAPS, place, count)
