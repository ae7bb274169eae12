"""Tests of luckwright.queues: point [7], held against going through slots and counting all children."""

import unittest
from fractions import Fraction
from itertools import product

from luckwright.errors import BadPart, BadSize, BadSpread
from luckwright.queues import children, dies_out, ever_gone, gone_by, least_room, lost, queue, series_at, waiting
from luckwright.spreads import Spread, even, sure
from luckwright.walks import Walk

O, I, H, T = (0, 1), (1, 1), (1, 2), (1, 3)
CHANCES = (O, T, H, (3, 4), I)
NO_CHANCES = ((-1, 2), (3, 2), (1, 0))
FAMILIES = ({0: 1}, {1: 1}, {2: 1}, {0: 1, 1: 1}, {0: 1, 2: 1}, {0: 1, 1: 1, 2: 1}, {0: 3, 1: 1, 2: 2}, {1: 1, 2: 1},
            {0: 1, 2: 3}, {0: 1, 3: 2}, {0: 2, 1: 1, 2: 1})


def small(value):
    """Return a Fraction as a part."""
    return Fraction(value).numerator, Fraction(value).denominator


def slots(comes, goes, room, few):
    """Return how many wait behind a slot, and the chance of it, for all that luck may do in it."""
    comes, goes = Fraction(*comes), Fraction(*goes)
    found = []
    for one_comes, one_goes in product((True, False), repeat=2):
        chance = (comes if one_comes else 1 - comes) * (goes if one_goes else 1 - goes)
        many = few + 1 if one_comes and few < room else few
        found.append((many - 1 if one_goes and many > 0 else many, chance))
    return found


def grown(table, count):
    """Return a table of how many there are in so many generations from one to chances, all children counted."""
    cases = [value for value in table for _ in range(table[value])]
    found = {1: Fraction(1)}
    for _ in range(count):
        rows = {}
        for many, chance in found.items():
            for row in product(cases, repeat=many):
                rows[sum(row)] = rows.get(sum(row), 0) + chance / len(cases) ** many
        found = rows
    return found


class QueueTest(unittest.TestCase):
    def test_queue(self):
        for comes, goes, room in product(CHANCES, CHANCES, (1, 2, 3)):
            walk = queue(comes, goes, room)
            self.assertIsInstance(walk, Walk)
            self.assertEqual(walk.many, room + 1)
            for few in range(room + 1):
                ways = slots(comes, goes, room, few)
                for there in range(room + 1):
                    whole = sum(chance for many, chance in ways if many == there)
                    self.assertEqual(walk.rows[few][there], small(whole))

    def test_one_who_comes_may_go_at_once(self):
        self.assertEqual(queue(H, T, 1).rows, [((2, 3), T), (T, (2, 3))])
        self.assertEqual(queue(I, I, 2).rows, [(I, O, O), (O, I, O), (O, I, O)])
        self.assertEqual(queue((2, 4), (3, 3), 1).rows, [(I, O), (I, O)])

    def test_long_run(self):
        for comes, goes, room in product(CHANCES, CHANCES, (1, 2, 3)):
            chances = queue(comes, goes, room).long_run()
            if chances is None:
                self.assertIsNone(lost(comes, goes, room))
                self.assertIsNone(waiting(comes, goes, room))
            else:
                self.assertEqual(lost(comes, goes, room), chances[room])
                mean = sum(few * Fraction(*chance) for few, chance in enumerate(chances))
                self.assertEqual(waiting(comes, goes, room), small(mean))

    def test_where_the_long_run_is_not_one(self):
        for room in (1, 2, 3):
            self.assertIsNone(lost(O, O, room))
            self.assertIsNone(waiting(O, O, room))
        for room in (2, 3):
            self.assertIsNone(lost(I, I, room))
            self.assertIsNone(waiting(I, I, room))
        self.assertEqual((lost(I, I, 1), waiting(I, I, 1)), (O, O))

    def test_sure_ones(self):
        for room in (1, 2, 3):
            self.assertEqual((lost(O, H, room), waiting(O, H, room)), (O, O))
            self.assertEqual((lost(H, O, room), waiting(H, O, room)), (I, (room, 1)))
            self.assertEqual((lost(H, I, room), waiting(H, I, room)), (O, O))

    def test_examples(self):
        self.assertEqual(lost(H, T, 1), H)
        self.assertEqual(waiting(H, T, 1), H)
        self.assertEqual(lost(H, H, 2), (1, 5))
        self.assertEqual(waiting(H, H, 2), (4, 5))

    def test_least_room(self):
        for comes, goes, chance, most in product(CHANCES[1:], CHANCES, (O, (1, 10), (1, 5), H, I), range(5)):
            rooms = [room for room in range(1, most + 1) if lost(comes, goes, room) is not None
                     and Fraction(*lost(comes, goes, room)) <= Fraction(*chance)]
            self.assertEqual(least_room(comes, goes, most, chance), rooms[0] if rooms else None)
        self.assertEqual(least_room(H, H, 9, (1, 5)), 2)
        self.assertIsNone(least_room(H, H, 1, (1, 5)))
        self.assertIsNone(least_room(H, H, 0, I))
        self.assertIsNone(least_room(O, O, 3, I))
        self.assertEqual(least_room(H, T, 3, I), 1)

    def test_refused(self):
        for ask in (queue, lost, waiting):
            for room in (0, -1):
                self.assertRaises(BadSize, ask, H, H, room)
            for chance in NO_CHANCES:
                self.assertRaises(BadPart, ask, chance, H, 1)
                self.assertRaises(BadPart, ask, H, chance, 1)
        self.assertRaises(BadSize, least_room, H, H, -1, H)
        for chance, most in product(NO_CHANCES, (0, 3)):
            self.assertRaises(BadPart, least_room, chance, H, most, H)
            self.assertRaises(BadPart, least_room, H, chance, most, H)
            self.assertRaises(BadPart, least_room, H, H, most, chance)


class BranchTest(unittest.TestCase):
    def test_children(self):
        for table, count in product(FAMILIES, range(4)):
            found = children(Spread(table), count)
            self.assertIsInstance(found, Spread)
            rows = grown(table, count)
            self.assertEqual({value: found.chance(value) for value in found.numbers()},
                             {value: small(rows[value]) for value in sorted(rows)})

    def test_gone_by(self):
        for table, count in product(FAMILIES, range(4)):
            self.assertEqual(gone_by(Spread(table), count), small(grown(table, count).get(0, 0)))
            self.assertEqual(gone_by(Spread(table), count), children(Spread(table), count).chance(0))
        self.assertEqual(gone_by(even([0, 2]), 3), (89, 128))

    def test_series_at(self):
        for table, chance in product(FAMILIES, (O, T, H, (2, 4), I)):
            whole = sum(weight * Fraction(*chance) ** value for value, weight in table.items())
            self.assertEqual(series_at(Spread(table), chance), small(whole / sum(table.values())))
        self.assertEqual(series_at(sure(0), O), I)
        self.assertEqual(series_at(sure(3), O), O)

    def test_dies_out(self):
        for table in FAMILIES:
            mean = Fraction(*Spread(table).mean())
            self.assertIs(dies_out(Spread(table)), mean < 1 or (mean == 1 and 0 in table))
        self.assertIs(dies_out(sure(0)), True)
        self.assertIs(dies_out(sure(1)), False)
        self.assertIs(dies_out(even([0, 2])), True)
        self.assertIs(dies_out(even([0, 1])), True)
        self.assertIs(dies_out(even([0, 2, 2])), False)

    def test_ever_gone_where_it_is_sure_or_none_dies(self):
        for width in (I, T, (5, 1), (1, 1000)):
            for table in ({0: 1}, {0: 1, 1: 1}, {0: 1, 2: 1}, {0: 9, 5: 1}):
                self.assertEqual(ever_gone(Spread(table), width), (I, I))
            for table in ({1: 1}, {2: 1}, {1: 1, 2: 1}, {3: 2, 1: 5}):
                self.assertEqual(ever_gone(Spread(table), width), (O, O))

    def test_ever_gone_where_it_is_neither(self):
        # The chances of none ever: what the spread's series leaves as it is.
        known = (({0: 1, 2: 2}, Fraction(1, 2)), ({0: 1, 2: 3}, Fraction(1, 3)), ({0: 2, 2: 3}, Fraction(2, 3)),
                 ({0: 1, 1: 1, 2: 2}, Fraction(1, 2)), ({0: 1, 2: 9}, Fraction(1, 9)))
        for (table, chance), width in product(known, (I, (3, 4), H, T, (1, 4), (1, 100), (1, 10 ** 9), (7, 2))):
            found = ever_gone(Spread(table), width)
            self.assertIs(type(found), tuple)
            low, high = Fraction(*found[0]), Fraction(*found[1])
            self.assertEqual(found, (small(low), small(high)))
            self.assertTrue(0 <= low <= chance <= high <= 1)
            self.assertTrue(high - low <= Fraction(*width))

    def test_ever_gone_goes_by_halves(self):
        spread = Spread({0: 1, 2: 3})
        self.assertEqual(ever_gone(spread, I), (O, I))
        self.assertEqual(ever_gone(spread, (3, 4)), (O, H))
        self.assertEqual(ever_gone(spread, (1, 4)), ((1, 4), H))
        self.assertEqual(ever_gone(spread, (1, 9)), ((5, 16), (3, 8)))
        self.assertEqual(ever_gone(Spread({0: 1, 3: 2}), (1, 8)), ((1, 4), (3, 8)))

    def test_far_generations_come_near_what_is_ever(self):
        for table in ({0: 1, 3: 2}, {0: 1, 1: 1, 2: 2}, {0: 1, 2: 3}):
            low, high = ever_gone(Spread(table), (1, 1000))
            gone = Fraction(*gone_by(Spread(table), 6))
            self.assertTrue(gone <= Fraction(*high))
            self.assertAlmostEqual(float(gone), float(Fraction(*low)), 1)

    def test_refused(self):
        below = Spread({-1: 1, 3: 2})
        for ask in (children, gone_by):
            self.assertRaises(BadSize, ask, even([0, 2]), -1)
        self.assertRaises(BadSize, gone_by, below, 1)
        self.assertRaises(BadSize, series_at, below, H)
        self.assertRaises(BadSize, ever_gone, below, H)
        self.assertRaises(BadSize, ever_gone, Spread({-1: 1, 0: 1}), H)
        self.assertRaises(BadSpread, children, below, 2)
        for width in (O, (-1, 2)):
            for table in ({0: 1}, {1: 1}, {0: 1, 2: 3}):
                self.assertRaises(BadSize, ever_gone, Spread(table), width)
