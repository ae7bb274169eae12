"""Tests of luckwright.samples: point [16], and of point [21] the figures' place, held against all rows of figures."""

import unittest
from fractions import Fraction
from itertools import combinations, permutations, product
from math import comb, factorial

from luckwright import samples
from luckwright.dice import die, rolls
from luckwright.errors import BadPaper, BadSize
from luckwright.samples import Figures
from luckwright.spreads import Spread, even, sure

O, I, H = (0, 1), (1, 1), (1, 2)
SPREADS = (sure(0), sure(-4), even([0, 1]), even([5, 1, 3]), Spread({0: 1, 1: 3}), Spread({-2: 1, 1: 1, 5: 2}),
           rolls(2, 3), Spread({1: 3, 2: 2, 3: 1}), Spread({4: 5, 7: 6, 9: 2}), die(6), Spread({0: 7, 3: 1}))


def small(value):
    """Return a Fraction as a part."""
    return Fraction(value).numerator, Fraction(value).denominator


def all_rows(base, long):
    """Return all rows of so many figures."""
    return list(product(range(base), repeat=long))


def told(base, row, many):
    """Return (number below many, figures taken) by a row of figures, None where it doesn't suffice."""
    cases, number = 1, 0
    for taken in range(len(row) + 1):
        while cases >= many:
            if number < many:
                return number, taken
            number, cases = number - many, cases - many
        if taken < len(row):
            cases, number = cases * base, number * base + row[taken]
    return None


def tries(base, row, draw):
    """Return what a function draws by a row of figures, None where it doesn't suffice and nothing was taken."""
    figures = Figures(base, row)
    try:
        return draw(figures)
    except BadSize:
        assert figures.place == 0
        return None


class FiguresTest(unittest.TestCase):
    def test_fields(self):
        figures = Figures(3, [2, 0, 1])
        self.assertEqual((figures.base, figures.row, figures.place), (3, (2, 0, 1), 0))
        self.assertIs(type(figures.row), tuple)
        row = [1, 1]
        kept = Figures(2, row)
        row[0] = 0
        self.assertEqual(kept.row, (1, 1))

    def test_figures_that_are_refused(self):
        for base, row in ((1, []), (0, []), (-2, []), (1, [0]), (2, [2]), (2, [0, -1]), (10, [3, 10, 4]), (3, (0, 3))):
            self.assertRaises(BadSize, Figures, base, row)
        self.assertEqual(Figures(2, ()).row, ())

    def test_take(self):
        figures = Figures(5, [4, 0, 3])
        self.assertEqual([figures.take() for _ in range(3)], [4, 0, 3])
        self.assertEqual(figures.place, 3)
        for _ in range(2):
            self.assertRaises(BadSize, figures.take)
            self.assertEqual(figures.place, 3)
        self.assertRaises(BadSize, Figures(2, []).take)

    def test_below_by_all_rows(self):
        for base, many in product(range(2, 6), range(1, 10)):
            long = 6 if base == 2 else 4
            counts = dict.fromkeys(range(many), 0)
            for row in all_rows(base, long):
                figures = Figures(base, row)
                due = told(base, row, many)
                if due is None:
                    self.assertRaises(BadSize, figures.below, many)
                    self.assertEqual(figures.place, 0)
                else:
                    self.assertEqual((figures.below(many), figures.place), due)
                    counts[due[0]] += 1
            self.assertEqual(len(set(counts.values())), 1)

    def test_a_number_is_told_as_soon_as_the_cases_are_as_many(self):
        self.assertEqual(Figures(2, []).below(1), 0)
        for base, long in product((2, 3, 10), (1, 2)):
            for number, row in enumerate(all_rows(base, long)):
                figures = Figures(base, row)
                self.assertEqual((figures.below(base ** long), figures.place), (number, long))
        # Of ten cases three times three tell one at once; the tenth goes on with ten more.
        for first in range(9):
            figures = Figures(10, [first, 5])
            self.assertEqual((figures.below(3), figures.place), (first % 3, 1))
        for second in range(9):
            figures = Figures(10, [9, second])
            self.assertEqual((figures.below(3), figures.place), (second % 3, 2))
        # Of eight cases five tell one, and three go on: to six cases, of which five tell one.
        for number, row in enumerate([(1, 0, 1), (1, 1, 0), (1, 1, 1)]):
            for last in (0, 1):
                figures = Figures(2, [*row, last])
                if 2 * number + last < 5:
                    self.assertEqual((figures.below(5), figures.place), (2 * number + last, 4))
                else:
                    self.assertRaises(BadSize, figures.below, 5)

    def test_below_goes_on_where_it_was(self):
        figures = Figures(6, [0, 3, 5, 5, 1])
        self.assertEqual([figures.below(6), figures.below(2), figures.below(3)], [0, 1, 2])
        self.assertEqual(figures.place, 3)
        self.assertRaises(BadSize, figures.below, 1000)
        self.assertEqual(figures.place, 3)
        self.assertEqual(figures.take(), 5)
        self.assertEqual(figures.below(6), 1)

    def test_below_that_is_refused(self):
        figures = Figures(2, [1, 1])
        for many in (0, -1, 5):
            self.assertRaises(BadSize, figures.below, many)
            self.assertEqual(figures.place, 0)
        self.assertRaises(BadSize, Figures(2, []).below, 2)


class RankTest(unittest.TestCase):
    def test_orders(self):
        for many in range(6):
            for number, order in enumerate(permutations(range(many))):
                self.assertEqual(samples.unranked(number, many), order)
                self.assertEqual(samples.ranked(order), number)
                self.assertEqual(samples.ranked(list(order)), number)
        self.assertIs(type(samples.unranked(0, 3)), tuple)
        self.assertEqual(samples.unranked(factorial(30) - 1, 30), tuple(range(30))[::-1])

    def test_orders_that_are_refused(self):
        for number, many in ((-1, 3), (6, 3), (1, 0), (-1, 0), (0, -1), (1, 1)):
            self.assertRaises(BadSize, samples.unranked, number, many)
        for row in ([1], [0, 0], [1, 2], [0, 2], [-1, 0], (0, 1, 1), [0, 1, 3]):
            self.assertRaises(BadSize, samples.ranked, row)

    def test_lots(self):
        for many in range(7):
            for few in range(many + 1):
                for number, lot in enumerate(combinations(range(many), few)):
                    self.assertEqual(samples.unranked_lot(number, many, few), lot)
                    self.assertEqual(samples.ranked_lot(lot, many), number)
                    self.assertEqual(samples.ranked_lot(list(lot), many), number)
        self.assertIs(type(samples.unranked_lot(0, 3, 2)), tuple)
        self.assertEqual(samples.unranked_lot(comb(60, 30) - 1, 60, 30), tuple(range(30, 60)))

    def test_lots_that_are_refused(self):
        for number, many, few in ((-1, 4, 2), (6, 4, 2), (1, 3, 0), (0, 3, 4), (0, 3, -1), (0, -1, 0), (0, -2, 1)):
            self.assertRaises(BadSize, samples.unranked_lot, number, many, few)
        for lot, many in (([1, 0], 3), ([1, 1], 3), ([3], 3), ([-1], 3), ([-1, 0], 3), ([0, 1, 2, 3], 3), ([0], 0),
                          ([], -1), ([0, 2, 1], 4)):
            self.assertRaises(BadSize, samples.ranked_lot, lot, many)


def shuffled_by(base, row, things):
    """Return an order by figures, each place from the last down with one below or itself, None for too few."""
    found, at = list(things), 0
    for place in range(len(found) - 1, 0, -1):
        one = told(base, row[at:], place + 1)
        if one is None:
            return None
        at += one[1]
        found[place], found[one[0]] = found[one[0]], found[place]
    return tuple(found)


class DrawTest(unittest.TestCase):
    def test_shuffled_by_all_rows(self):
        for things, base, long in product(("", "a", "ab", "abc", "abcd"), (2, 3, 4, 6), (0, 2, 5)):
            counts = {order: 0 for order in permutations(things)}
            for row in all_rows(base, long):
                due = shuffled_by(base, row, things)
                self.assertEqual(tries(base, row, lambda figures: samples.shuffled(list(things), figures)), due)
                if due is not None:
                    counts[due] += 1
            self.assertEqual(len(set(counts.values())), 1)

    def test_shuffled_leaves_what_it_is_handed(self):
        row = [7, 7, 5]
        figures = Figures(6, [0, 1, 4])
        self.assertEqual(samples.shuffled(row, figures), (5, 7, 7))
        self.assertEqual((row, figures.place), ([7, 7, 5], 2))
        self.assertIs(type(samples.shuffled([1], figures)), tuple)
        self.assertEqual(figures.place, 2)

    def test_shuffled_without_enough_figures_takes_none(self):
        figures = Figures(6, [3, 0, 1])
        figures.take()
        self.assertRaises(BadSize, samples.shuffled, [1, 2, 3, 4, 5], figures)
        self.assertEqual(figures.place, 1)
        self.assertEqual(figures.take(), 0)

    def test_by_weights_by_all_rows(self):
        for spread, base in product(SPREADS, (2, 3, 4)):
            numbers = [value for value in spread.numbers() for _ in range(spread.weights[value])]
            counts = dict.fromkeys(spread.numbers(), 0)
            for row in all_rows(base, 5):
                due = told(base, row, spread.whole)
                found = tries(base, row, lambda figures: samples.by_weights(spread, figures))
                self.assertEqual(found, None if due is None else numbers[due[0]])
                if found is not None:
                    counts[found] += 1
            self.assertEqual(Spread(counts).shown(), spread.shown())

    def test_counted(self):
        for base, many, long in product((2, 3), (1, 2, 3, 5), range(6)):
            due = [told(base, row, many) for row in all_rows(base, long)]
            if all(one is None for one in due):
                self.assertRaises(BadSize, samples.counted, lambda figures: figures.below(many), base, long)
            else:
                found = samples.counted(lambda figures: figures.below(many), base, long)
                self.assertIsInstance(found, Spread)
                self.assertEqual(found.shown(), even(list(range(many))).shown())
        self.assertEqual(samples.counted(lambda figures: figures.take() + figures.take(), 3, 2).shown(),
                         even([0, 1, 2, 1, 2, 3, 2, 3, 4]).shown())
        self.assertEqual(samples.counted(lambda figures: 7, 2, 0).shown(), sure(7).shown())
        self.assertEqual(samples.counted(lambda figures: 10 * figures.row[0] + figures.row[2], 2, 3).shown(),
                         even([0, 1, 10, 11]).shown())

    def test_counted_leaves_out_rows_that_are_too_short(self):
        def draw(figures):
            return 2 if figures.take() else figures.take() + figures.take()

        self.assertEqual(samples.counted(draw, 2, 3).shown(), Spread({0: 1, 1: 2, 2: 5}).shown())
        self.assertEqual(samples.counted(draw, 2, 2).shown(), sure(2).shown())
        for base, long in ((2, 0), (2, -1), (1, 2), (0, 2), (1, 0), (0, 0), (-3, 0), (-3, 1), (-3, 2)):
            self.assertRaises(BadSize, samples.counted, draw, base, long)


class AliasTest(unittest.TestCase):
    def test_draws_tell_the_spread(self):
        for spread in SPREADS:
            rows = samples.alias(spread)
            self.assertEqual([type(one) for one in (rows, *rows)], [tuple] * (len(rows) + 1))
            self.assertEqual(tuple(row[0] for row in rows), spread.numbers())
            counts = {}
            for (value, limit, other), draw in product(rows, range(spread.whole)):
                found = value if draw < limit else other
                counts[found] = counts.get(found, 0) + 1
            self.assertEqual(Spread(counts).shown(), spread.shown())
            self.assertIs(samples.check_alias(spread, rows), True)

    def test_the_first_that_lacks_is_filled_by_the_first_that_has_too_much(self):
        for spread in SPREADS:
            numbers = spread.numbers()
            left = {value: spread.weights[value] * len(numbers) for value in numbers}
            open_ones = list(numbers)
            rows = {value: (spread.whole, None) for value in numbers}
            while any(left[value] != spread.whole for value in open_ones):
                lacks = next(value for value in open_ones if left[value] < spread.whole)
                ample = next(value for value in open_ones if left[value] > spread.whole)
                rows[lacks] = (left[lacks], ample)
                left[ample] -= spread.whole - left[lacks]
                open_ones.remove(lacks)
            for value, limit, other in samples.alias(spread):
                self.assertEqual(limit, rows[value][0])
                if limit < spread.whole:
                    self.assertEqual(other, rows[value][1])

    def test_examples(self):
        self.assertEqual(samples.alias(Spread({0: 1, 1: 3})), ((0, 2, 1), (1, 4, 1)))
        # The one has too much, and lacks when it has filled the first one.
        self.assertEqual(samples.alias(Spread({0: 1, 1: 6, 2: 8})), ((0, 3, 1), (1, 6, 2), (2, 15, 2)))
        self.assertEqual(samples.alias(sure(5)), ((5, 1, 5),))

    def test_check_alias(self):
        spread = Spread({0: 1, 1: 3})
        for rows in ([[0, 2, 1], [1, 4, 1]], ((1, 4, 0), (0, 2, 1)), [(1, 2, 0), (1, 4, 1)],
                     [(0, 1, 1)], [(1, 3, 0)], [(0, 0, 1), (1, 2, 0)], [(0, 1, 1)] * 3, [(1, 4, 7), (0, 2, 1)]):
            self.assertIs(samples.check_alias(spread, rows), True)
        for rows in ([], (), [(0, 2, 1)], [(0, 2, 1), (1, 3, 0)], [(0, 5, 1), (1, 1, 0)], [(0, -1, 1), (1, 4, 0)],
                     [(0, 2, 1), (1, 5, 1)], [(0, 2, 1), (1, 4, 1), (2, 0, 1)], [(7, 2, 1), (1, 4, 1)],
                     [(0, 2, 2), (1, 4, 1)]):
            self.assertRaises(BadPaper, samples.check_alias, spread, rows)


def thrown(words, row):
    """Return (coins thrown, number told or None) by a row of coins."""
    for long in range(len(row) + 1):
        word = "".join(str(one) for one in row[:long])
        if word in words:
            return long, words[word]
    return len(row), None


class CoinsTest(unittest.TestCase):
    def test_each_number_has_the_halves_of_its_chance(self):
        for spread, depth in product(SPREADS, range(7)):
            words = samples.coins(spread, depth)
            self.assertIs(type(words), dict)
            for value in spread.numbers():
                mine = [word for word in words if words[word] == value]
                share = Fraction(*spread.chance(value))
                halves = sum(Fraction(1, 2 ** len(word)) for word in mine)
                self.assertEqual(halves, Fraction(int(share * 2 ** depth), 2 ** depth))
                self.assertEqual(len(set(map(len, mine))), len(mine))
            for word in words:
                self.assertTrue(len(word) <= depth and set(word) <= {"0", "1"})
                self.assertFalse(any(word[:long] in words for long in range(len(word))))

    def test_words_and_numbers_go_in_order(self):
        for spread, depth in product(SPREADS, range(7)):
            words = samples.coins(spread, depth)
            for long in range(depth + 1):
                here = sorted(word for word in words if len(word) == long)
                self.assertEqual([words[word] for word in here], sorted(words[word] for word in here))
                # The first words of a length that are free are given, so none that is free stands ahead of one given.
                free = ["".join(row) for row in product("01", repeat=long)]
                free = [word for word in free if not any(word[:some] in words for some in range(long))]
                self.assertEqual(free[:len(here)], here)

    def test_examples(self):
        self.assertEqual(samples.coins(sure(4), 0), {"": 4})
        self.assertEqual(samples.coins(sure(4), 3), {"": 4})
        self.assertEqual(samples.coins(die(3), 0), {})
        self.assertEqual(samples.coins(die(3), 1), {})
        self.assertEqual(samples.coins(die(3), 4), {"00": 1, "01": 2, "10": 3, "1100": 1, "1101": 2, "1110": 3})
        self.assertEqual(samples.coins(Spread({5: 3, 2: 1}), 2), {"0": 5, "10": 2, "11": 5})
        self.assertEqual(samples.coins(even([0, 1]), 5), {"0": 0, "1": 1})
        self.assertRaises(BadSize, samples.coins, die(3), -1)

    def test_coin_mean_by_all_throws(self):
        tables = [samples.coins(spread, depth) for spread, depth in product(SPREADS, (0, 1, 3, 5))]
        for words in [*tables, {}, {"0": 1}, {"0": 1, "01": 2}, {"": 1, "1": 2}, {"0110": 3, "011": 4, "1": 5}]:
            for depth in range(6):
                counts = [thrown(words, row)[0] for row in all_rows(2, depth)]
                self.assertEqual(samples.coin_mean(words, depth), small(Fraction(sum(counts), len(counts))))

    def test_coin_mean_examples(self):
        self.assertEqual(samples.coin_mean({"": 4}, 0), O)
        self.assertEqual(samples.coin_mean({}, 3), (3, 1))
        self.assertEqual(samples.coin_mean({"0": 1, "1": 2}, 9), I)
        self.assertEqual(samples.coin_mean(samples.coins(die(3), 4), 4), (5, 2))

    def test_the_fewest_coins(self):
        for spread in (Spread({0: 1, 1: 3}), Spread({0: 3, 1: 5}), Spread({0: 1, 1: 1, 2: 2}),
                       Spread({0: 1, 1: 2, 2: 5})):
            least = samples.coin_mean(samples.coins(spread, 3), 3)
            means = []
            for words in all_tables(3, spread.numbers()):
                rows = {value: sum(2 ** (3 - len(word)) for word in words if words[word] == value)
                        for value in spread.numbers()}
                if Spread(rows).shown() == spread.shown():
                    means.append(Fraction(*samples.coin_mean(words, 3)))
            self.assertEqual(small(min(means)), least)


def all_tables(depth, numbers):
    """Return all tables of words to numbers by which each throw of so many coins comes to just one word."""
    found = [{"": value} for value in numbers]
    if depth > 0:
        for left, right in product(all_tables(depth - 1, numbers), repeat=2):
            found.append({**{"0" + word: value for word, value in left.items()},
                          **{"1" + word: value for word, value in right.items()}})
    return found
