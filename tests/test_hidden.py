"""Tests of luckwright.hidden: point [13], held against trying all ways."""

import unittest
from fractions import Fraction
from itertools import product

from luckwright.errors import BadPaper, BadPart, BadTree, NoChance
from luckwright.hidden import Hidden, check_way, max_place

O, I, H, T, T2, Q = (0, 1), (1, 1), (1, 2), (1, 3), (2, 3), (1, 4)
ONE_PLACE = Hidden([I], [[I]], [[T, T2]], "ab")
TWO = Hidden([(3, 5), (2, 5)], [[(7, 10), (3, 10)], [(2, 5), (3, 5)]], [[H, H], [(1, 10), (9, 10)]], "ab")
# From the second place one never comes back to the first, and neither shows all letters.
ONWARD = Hidden([I, O], [[H, H], [O, I]], [[H, H, O], [O, H, H]], "xyz")
THREE = Hidden((T, T, T), [(T, T, T), (H, Q, Q), (O, H, H)], [(H, H), (Q, (3, 4)), (I, O)], ("a", "b"))
# All ways are alike likely here.
ALIKE = Hidden([H, H], [[H, H], [H, H]], [[H, H], [H, H]], ["a", "b"])
ALL = (ONE_PLACE, TWO, ONWARD, THREE, ALIKE)


def small(value):
    """Return a Fraction as a part."""
    return Fraction(value).numerator, Fraction(value).denominator


def words_of(hidden):
    """Return all words of up to four letters, one of them none of the letters in words of up to two."""
    letters = list(hidden.letters)
    found = [word for long in range(5) for word in product(letters, repeat=long)]
    return found + [word for long in (1, 2) for word in product(letters + ["?"], repeat=long) if "?" in word]


def chance_by(hidden, word, way):
    """Return the chance of a way and a word together, as a Fraction."""
    found = Fraction(1)
    for number, place in enumerate(way):
        found *= Fraction(*(hidden.first[place] if number == 0 else hidden.rows[way[number - 1]][place]))
        at = [at for at, letter in enumerate(hidden.letters) if letter == word[number]]
        found *= Fraction(*hidden.signs[place][at[0]]) if at else 0
    return found


def ways_of(hidden, long):
    """Return all ways of so many places."""
    return list(product(range(len(hidden.rows)), repeat=long))


def added(hidden, word, test):
    """Return the chance of a word and of all ways of which a function tells True."""
    return small(sum(chance_by(hidden, word, way) for way in ways_of(hidden, len(word)) if test(way)))


class HiddenTest(unittest.TestCase):
    def test_fields(self):
        hidden = Hidden([(2, 4), (1, 2)], [[(2, 4), (3, 6)], ((0, 5), (7, 7))], [[(2, 4), (2, 4)], (O, I)], "ab")
        self.assertEqual(hidden.first, (H, H))
        self.assertEqual(hidden.rows, [(H, H), (O, I)])
        self.assertEqual(hidden.signs, [(H, H), (O, I)])
        self.assertEqual(hidden.letters, "ab")
        self.assertIs(type(hidden.first), tuple)
        self.assertEqual([type(hidden.rows), type(hidden.signs)], [list, list])
        self.assertEqual([type(row) for row in hidden.signs], [tuple, tuple])
        self.assertEqual(THREE.letters, ("a", "b"))
        self.assertEqual(ALIKE.letters, ["a", "b"])

    def test_what_is_handed_in_is_neither_changed_nor_kept(self):
        first, rows, signs, letters = [(2, 4), H], [[(2, 4), H], [H, H]], [[(2, 4), H], [I, O]], ["a", "b"]
        hidden = Hidden(first, rows, signs, letters)
        self.assertEqual((first, rows, signs, letters),
                         ([(2, 4), H], [[(2, 4), H], [H, H]], [[(2, 4), H], [I, O]], ["a", "b"]))
        for row in (first, rows, signs, letters):
            row.clear()
        self.assertEqual(hidden.chance(["a"]), (3, 4))
        self.assertEqual(hidden.letters, ["a", "b"])

    def test_first_chances_that_are_refused(self):
        rows, signs = [[H, H], [H, H]], [[I], [I]]
        for first in ([], [I], [H, H, O], [H, T], [O, O], [I, I]):
            self.assertRaises(BadTree, Hidden, first, rows, signs, "a")
        for first in ([(3, 2), (-1, 2)], [(-1, 1), (2, 1)], [(1, 0), H]):
            self.assertRaises(BadPart, Hidden, first, rows, signs, "a")

    def test_rows_that_are_refused(self):
        for rows in ([], [[I]], [[H, H]], [[H, H], [I]], [[H, T], [H, H]], [[O, O], [H, H]], [[(3, 2), (-1, 2)], [H, H]]):
            self.assertRaises(BadTree, Hidden, [H, H], rows, [[I], [I]], "a")
        self.assertRaises(BadTree, Hidden, [H, H], [[T, T, T]] * 3, [[I], [I]], "a")
        self.assertRaises(BadTree, Hidden, [], [], [], "a")
        self.assertRaises(BadPart, Hidden, [H, H], [[(1, 0), H], [H, H]], [[I], [I]], "a")

    def test_signs_that_are_refused(self):
        rows = [[H, H], [H, H]]
        for signs in ([], [[I, O]], [[I, O]] * 3, [[I], [I]], [[I, O], [I]], [[I, O, O], [I, O]], [[H, T], [I, O]],
                      [[I, O], [O, O]], [[], []]):
            self.assertRaises(BadTree, Hidden, [H, H], rows, signs, "ab")
        for signs in ([[(3, 2), (-1, 2)], [I, O]], [[I, O], [(1, 0), H]], [[I, O], [(2, 1), O]]):
            self.assertRaises(BadPart, Hidden, [H, H], rows, signs, "ab")
        self.assertRaises(BadTree, Hidden, [H, H], rows, [[], []], "")

    def test_size_and_sign(self):
        self.assertEqual([hidden.size() for hidden in ALL], [1, 2, 2, 3, 2])
        self.assertEqual([TWO.sign(0, "a"), TWO.sign(1, "a"), TWO.sign(1, "b")], [H, (1, 10), (9, 10)])
        for letter in ("c", "", "ab", "A", None, 0):
            self.assertEqual([TWO.sign(0, letter), THREE.sign(2, letter)], [O, O])

    def test_ahead_adds_all_ways(self):
        for hidden in ALL:
            for word in words_of(hidden):
                found = hidden.ahead(word)
                self.assertEqual([type(row) for row in (found, *found)], [tuple] * (len(word) + 1))
                self.assertEqual(found, tuple(
                    tuple(added(hidden, word[:long], lambda way, place=place: way[-1] == place)
                          for place in range(hidden.size())) for long in range(1, len(word) + 1)))

    def test_behind_adds_all_ways(self):
        for hidden in ALL:
            for word in words_of(hidden):
                found = hidden.behind(word)
                self.assertEqual([type(row) for row in (found, *found)], [tuple] * (len(word) + 1))
                for number, row in enumerate(found):
                    self.assertEqual(len(row), hidden.size())
                    for place, chance in enumerate(row):
                        started = Hidden([I if other == place else O for other in range(hidden.size())], hidden.rows,
                                         [[I] + [O] * len(hidden.letters)] * hidden.size(), ["!", *hidden.letters])
                        started.signs = [(I, *signs) for signs in hidden.signs]
                        self.assertEqual(chance, added(started, ("!", *word[number + 1:]), lambda way: True))

    def test_chance_adds_all_ways(self):
        for hidden in ALL:
            for word in words_of(hidden):
                self.assertEqual(hidden.chance(word), added(hidden, word, lambda way: True))
            for long in range(4):
                whole = sum(Fraction(*hidden.chance(word)) for word in product(hidden.letters, repeat=long))
                self.assertEqual(whole, 1)
            self.assertEqual(hidden.chance(""), I)
        self.assertEqual(TWO.chance("ab"), small(sum(Fraction(*row) for row in TWO.ahead("ab")[-1])))
        self.assertEqual(TWO.chance("a"), (17, 50))

    def test_places_by_all_letters(self):
        for hidden in ALL:
            for word in words_of(hidden):
                whole = Fraction(*hidden.chance(word))
                if whole == 0:
                    self.assertRaises(NoChance, hidden.places_by, word)
                    continue
                found = hidden.places_by(word)
                self.assertEqual([type(row) for row in (found, *found)], [tuple] * (len(word) + 1))
                self.assertEqual(found, tuple(
                    tuple(small(Fraction(*added(hidden, word, lambda way, at=(number, place): way[at[0]] == at[1]))
                                / whole) for place in range(hidden.size())) for number in range(len(word))))
        self.assertEqual(TWO.places_by(""), ())
        self.assertRaises(NoChance, ONWARD.places_by, "xzx")
        self.assertRaises(NoChance, TWO.places_by, "a?")

    def test_way_chance(self):
        for hidden in ALL:
            for word in words_of(hidden):
                for way in ways_of(hidden, len(word)):
                    self.assertEqual(hidden.way_chance(word, way), small(chance_by(hidden, word, way)))
        self.assertEqual(TWO.way_chance("", ()), I)
        self.assertEqual(TWO.way_chance(["a", "b"], [0, 1]), (81, 1000))

    def test_ways_that_are_refused(self):
        for word, way in (("", [0]), ("a", []), ("ab", [0]), ("a", [0, 1]), ("a", [2]), ("a", [-1]), ("ab", [0, 2]),
                          ("ab", (-1, 0)), ("?", [2]), ("??", [0])):
            self.assertRaises(BadTree, TWO.way_chance, word, way)


class LikeliestTest(unittest.TestCase):
    def test_best_to_is_the_greatest_of_all_ways(self):
        for hidden in ALL:
            for word in words_of(hidden):
                found = hidden.best_to(word)
                self.assertEqual([type(row) for row in (found, *found)], [tuple] * (len(word) + 1))
                for number, row in enumerate(found):
                    ways = ways_of(hidden, number + 1)
                    self.assertEqual(row, tuple(small(max(chance_by(hidden, word[:number + 1], way) for way in ways
                                                          if way[-1] == place)) for place in range(hidden.size())))

    def test_the_likeliest_way_by_trying_all(self):
        for hidden in ALL:
            for word in words_of(hidden):
                ways = ways_of(hidden, len(word))
                most = max(chance_by(hidden, word, way) for way in ways)
                if most == 0:
                    self.assertRaises(NoChance, hidden.likeliest, word)
                    continue
                found = hidden.likeliest(word)
                self.assertIs(type(found), tuple)
                # Of as likely ways the one with the lowest places, looked at from the end back.
                self.assertEqual(found[::-1], min(way[::-1] for way in ways if chance_by(hidden, word, way) == most))

    def test_as_likely_ways(self):
        self.assertEqual(ALIKE.likeliest("abba"), (0, 0, 0, 0))
        self.assertEqual(ALIKE.likeliest(""), ())
        # Two ways are alike likely: the first of them has the lower first place, the other the lower last one.
        crossed = Hidden([H, H], [[O, I], [I, O]], [[I], [I]], "a")
        self.assertEqual(crossed.likeliest("aa"), (1, 0))
        self.assertEqual(crossed.likeliest("aaa"), (0, 1, 0))
        self.assertRaises(NoChance, ONWARD.likeliest, "xyzyx")

    def test_max_place(self):
        self.assertEqual(max_place([T, H, H, (2, 4)]), 1)
        self.assertEqual(max_place([O]), 0)
        self.assertEqual(max_place(((-1, 2), (-1, 3), (-3, 1))), 1)
        self.assertEqual(max_place([(2, 4), H]), 0)
        self.assertEqual(max_place([(9, 20), (46, 100), T]), 1)

    def test_tables_of_best_ways_are_taken(self):
        for hidden in ALL:
            for word in words_of(hidden):
                most = max(chance_by(hidden, word, way) for way in ways_of(hidden, len(word)))
                table = hidden.best_to(word)
                if most > 0:
                    self.assertEqual(check_way(hidden, word, hidden.likeliest(word), table), small(most))
                for way in ways_of(hidden, len(word)):
                    if chance_by(hidden, word, way) == most:
                        self.assertEqual(check_way(hidden, list(word), list(way), [list(row) for row in table]),
                                         small(most))
                    else:
                        self.assertRaises(BadPaper, check_way, hidden, word, way, table)
        self.assertEqual(check_way(TWO, "", (), ()), I)

    def test_tables_are_taken_just_where_no_place_is_below_any_way_to_it(self):
        word, way = "bab", TWO.likeliest("bab")
        table = TWO.best_to(word)
        for number, place, times in product(range(3), range(2), (Fraction(9, 10), Fraction(1), Fraction(11, 10))):
            rows = [list(row) for row in table]
            rows[number][place] = small(Fraction(*rows[number][place]) * times)
            values = [[Fraction(*one) for one in row] for row in rows]
            taken = max(values[2]) == Fraction(*TWO.way_chance(word, way))
            for at, other in product(range(3), range(2)):
                ways = [Fraction(*TWO.first[other])] if at == 0 else \
                    [values[at - 1][ahead] * Fraction(*TWO.rows[ahead][other]) for ahead in range(2)]
                if any(values[at][other] < one * Fraction(*TWO.sign(other, word[at])) for one in ways):
                    taken = False
            if taken:
                self.assertEqual(check_way(TWO, word, way, rows), TWO.way_chance(word, way))
            else:
                self.assertRaises(BadPaper, check_way, TWO, word, way, rows)

    def test_tables_above_the_best_ways_are_taken_where_the_last_is_reached(self):
        # What is more than any way's at a place that no likely way goes on from is no fault.
        table = [list(row) for row in ONWARD.best_to("xx")]
        self.assertEqual(table[1], [(1, 8), O])
        table[0][1] = (1, 7)
        self.assertEqual(check_way(ONWARD, "xx", (0, 0), table), (1, 8))
        table[1][1] = (1, 8)
        self.assertEqual(check_way(ONWARD, "xx", (0, 0), table), (1, 8))
        table[1][1] = (1, 7)
        self.assertRaises(BadPaper, check_way, ONWARD, "xx", (0, 0), table)

    def test_papers_that_are_refused(self):
        table, way = TWO.best_to("ab"), TWO.likeliest("ab")
        for wrong in ((), table[:1], (*table, table[1]), (table[0][:1], table[1]), (table[0], (*table[1], O)),
                      ((), ()), (table[0], (O, O)), ((O, O), table[1]), (table[0], ((-1, 2), table[1][1])),
                      (table[0], (I, table[1][1])), (table[1], table[0])):
            self.assertRaises(BadPaper, check_way, TWO, "ab", way, wrong)
        self.assertRaises(BadPaper, check_way, TWO, "", (), table)
        for other in ((), (0,), (0, 2), (-1, 1), (0, 1, 1)):
            self.assertRaises(BadTree, check_way, TWO, "ab", other, table)
        self.assertRaises(BadTree, check_way, TWO, "", (0,), ())
