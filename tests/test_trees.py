"""Tests of luckwright.trees: point [5], held against trying all plans and all ways that luck goes."""

import unittest
from fractions import Fraction
from itertools import product

from luckwright import trees
from luckwright.errors import BadPaper, BadPart, BadTree

HALF = (1, 2)


def end(top, low=1):
    """Return an end."""
    return ("end", (top, low))


def luck(*rows):
    """Return luck of (chance, tree) rows."""
    return ("luck", rows)


def choose(*rows):
    """Return a choice of trees."""
    return ("choose", rows)


def flip(one, other):
    """Return luck that goes either way alike."""
    return luck((HALF, one), (HALF, other))


TREES = (
    end(0),
    end(-3, 2),
    flip(end(1), end(-4)),
    luck(((1, 3), end(1)), ((2, 3), end(0)), ((0, 1), end(99))),
    choose(end(2)),
    choose(end(1), end(3), end(3), end(-1)),
    choose(flip(end(0), end(2)), end(1), luck(((1, 1), end(1)))),
    flip(choose(end(0), end(5)), choose(end(-1), end(-2), end(-1))),
    choose(flip(choose(end(1), end(2)), end(-8)), luck(((1, 4), end(3)), ((3, 4), choose(end(-2), end(-2)))),
           choose(end(-3), end(-1, 3))),
    luck(((1, 6), end(6)), ((5, 6), choose(end(1), flip(choose(end(4), end(0)), end(-1))))),
)


def plans_of(tree):
    """Return all plans of a tree, by trying all."""
    kind, rows = tree
    if kind == "end":
        return [()]
    if kind == "luck":
        return list(product(*[plans_of(inner) for chance, inner in rows]))
    return [(number, steps) for number, inner in enumerate(rows) for steps in plans_of(inner)]


def ends_of(tree, steps):
    """Return (chance, end) rows of a plan, in Fractions."""
    kind, rows = tree
    if kind == "end":
        return [(Fraction(1), Fraction(*rows))]
    if kind == "luck":
        return [(Fraction(*chance) * further, value) for (chance, inner), way in zip(rows, steps)
                for further, value in ends_of(inner, way)]
    return ends_of(rows[steps[0]], steps[1])


def mean_of(tree, steps):
    """Return a plan's mean, in Fractions."""
    return sum(chance * value for chance, value in ends_of(tree, steps))


def small(value):
    """Return a Fraction as a part."""
    return value.numerator, value.denominator


def best_of(tree):
    """Return a tree's worth by trying all plans."""
    return max(mean_of(tree, steps) for steps in plans_of(tree))


def within(tree):
    """Return the trees right within a tree."""
    if tree[0] == "end":
        return ()
    return tuple(row[1] for row in tree[1]) if tree[0] == "luck" else tree[1]


def listed(one):
    """Return rows within rows as lists, a tree's parts too."""
    return [listed(inner) for inner in one] if isinstance(one, tuple) else one


def is_all_tuples(one):
    """Tell whether there is no list anywhere."""
    return not isinstance(one, list) and (not isinstance(one, tuple) or all(is_all_tuples(inner) for inner in one))


def chain(many):
    """Return a tree so deep: at each step one may stop, or go on by luck that may end at nought."""
    tree = end(many)
    for place in reversed(range(many)):
        tree = choose(end(place), luck(((1, 4), end(0)), ((3, 4), tree)))
    return tree


class TreesTest(unittest.TestCase):
    def test_worth_and_plan_against_all_plans(self):
        for tree in TREES:
            with self.subTest(tree=tree):
                self.assertEqual(trees.worth(tree), small(best_of(tree)))
                found = trees.plan(tree)
                self.assertEqual(mean_of(tree, found), best_of(tree))
                self.assertEqual(trees.worth(listed(tree)), small(best_of(tree)))
                self.assertTrue(is_all_tuples(trees.plan(listed(tree))))

    def test_the_first_best_choice_everywhere(self):
        for tree in TREES:
            self.assertEqual(trees.plan(tree), self.first_best(tree))

    def first_best(self, tree):
        """Return the plan with the first best choice at each place."""
        if tree[0] != "choose":
            return tuple(self.first_best(inner) for inner in within(tree))
        values = [best_of(inner) for inner in tree[1]]
        number = values.index(max(values))
        return (number, self.first_best(tree[1][number]))

    def test_plans_of_alike_choices(self):
        self.assertEqual(trees.plan(choose(end(1), end(3), end(3))), (1, ()))
        self.assertEqual(trees.plan(choose(end(2, 4), end(1, 2))), (0, ()))
        self.assertEqual(trees.plan(choose(end(0), flip(end(0), choose(end(1), end(2))))), (1, ((), (1, ()))))
        self.assertEqual(trees.plan(end(5)), ())

    def test_parts_not_small(self):
        self.assertEqual(trees.worth(end(2, 4)), (1, 2))
        self.assertEqual(trees.worth(choose(end(2, 4), end(4, 6))), (2, 3))
        self.assertEqual(trees.worth(luck(((2, 4), end(2, 2)), ((3, 6), end(0)))), (1, 2))
        self.assertEqual(trees.values_of(end(2, 4)), ((1, 2), ()))
        self.assertEqual(trees.worth_by(end(-2, -4), ()), (1, 2))

    def test_bare_choice(self):
        for told in (trees.worth, trees.plan, trees.values_of):
            self.assertRaises(BadPart, told, ("choose", ()))
        self.assertRaises(BadPart, trees.surest, ("choose", ()), lambda value: True)

    def test_all_plans(self):
        for tree in TREES:
            found = trees.all_plans(tree)
            self.assertEqual(found, tuple(plans_of(tree)))
            self.assertTrue(is_all_tuples(found))
        self.assertEqual(trees.all_plans(end(0)), ((),))
        two = choose(end(0), end(1))
        self.assertEqual(trees.all_plans(flip(two, two)), (((0, ()), (0, ())), ((0, ()), (1, ())),
                                                            ((1, ()), (0, ())), ((1, ()), (1, ()))))

    def test_worth_by_all_plans(self):
        for tree in TREES:
            for steps in plans_of(tree):
                self.assertEqual(trees.worth_by(tree, steps), small(mean_of(tree, steps)))
                self.assertEqual(trees.worth_by(listed(tree), listed(steps)), small(mean_of(tree, steps)))

    def test_chances_by_all_plans(self):
        for tree in TREES:
            for test in (lambda value: value[0] > 0, lambda value: value == (1, 1), lambda value: False):
                chances = []
                for steps in plans_of(tree):
                    chances.append(sum((chance for chance, value in ends_of(tree, steps) if test(small(value))),
                                       Fraction(0)))
                    self.assertEqual(trees.chance_of(tree, steps, test), small(chances[-1]))
                self.assertEqual(trees.surest(tree, test), small(max(chances)))
            self.assertEqual(trees.chance_of(tree, trees.plan(tree), lambda value: True), (1, 1))

    def test_tests_are_told_small_parts(self):
        self.assertEqual(trees.chance_of(end(2, 4), (), lambda value: value == (1, 2)), (1, 1))
        self.assertEqual(trees.surest(end(2, 4), lambda value: value == (1, 2)), (1, 1))

    def test_plans_of_another_form(self):
        three = luck(((1, 3), end(0)), ((1, 3), end(1)), ((1, 3), end(2)))
        two = choose(end(0), end(1))
        rows = [(end(0), steps) for steps in (None, 0, "", ((),), (0, ()), [0])]
        rows += [(three, steps) for steps in (None, 7, (), ((), ()), ((), (), (), ()), ((), (), (0, ())))]
        rows += [(two, steps) for steps in (None, 1, (), (0,), (0, (), ()), (2, ()), (-1, ()), ("0", ()), ((), 0),
                                            (None, ()), (0, 5), (0, ((),)))]
        rows += [(flip(end(0), two), ((), ())), (choose(three), (0, ())), (choose(two), (0, (2, ())))]
        for tree, steps in rows:
            with self.subTest(tree=tree, steps=steps):
                self.assertRaises(BadTree, trees.worth_by, tree, steps)
                self.assertRaises(BadTree, trees.chance_of, tree, steps, lambda value: True)

    def test_inner_trees(self):
        for tree in TREES:
            self.assertEqual(trees.inner_trees(tree), within(tree))
            found = trees.inner_trees(listed(tree))
            self.assertEqual(found, within(tree))
            self.assertTrue(is_all_tuples(found))

    def test_size_of(self):
        for tree in TREES:
            sizes = [trees.size_of(inner) for inner in within(tree)]
            self.assertEqual(trees.size_of(tree), 1 if tree[0] == "end" else sum(sizes))
        self.assertEqual(trees.size_of(TREES[8]), 8)

    def test_deep_trees(self):
        tree = chain(1500)
        self.assertEqual(trees.size_of(tree), 3001)
        found = trees.worth(tree)
        best = Fraction(1500)
        for place in reversed(range(1500)):
            best = max(Fraction(place), best * Fraction(3, 4))
        self.assertEqual(found, small(best))
        self.assertEqual(trees.worth_by(tree, trees.plan(tree)), found)
        self.assertEqual(trees.check_plan(tree, trees.plan(tree), trees.values_of(tree)), found)
        self.assertEqual(trees.size_of(trees.check_tree(tree)), 3001)


class CheckTreeTest(unittest.TestCase):
    def test_trees_are_told_in_tuples(self):
        for tree in TREES:
            for one in (tree, listed(tree)):
                found = trees.check_tree(one)
                self.assertEqual(found, tree)
                self.assertTrue(is_all_tuples(found))

    def test_parts_are_made_small(self):
        tree = ["luck", [[[2, 4], ["end", [3, -6]]], [[3, 6], ["choose", [["end", [0, 4]]]]]]]
        self.assertEqual(trees.check_tree(tree), luck((HALF, end(-1, 2)), (HALF, choose(end(0)))))
        self.assertEqual(tree[1][0], [[2, 4], ["end", [3, -6]]])

    def test_not_one_in_all(self):
        for rows in ((), ((HALF, end(0)),), ((HALF, end(0)), ((1, 3), end(0))), ((HALF, end(0)), ((2, 3), end(0)))):
            for tree in (luck(*rows), choose(end(0), luck(*rows)), luck(((1, 1), luck(*rows)))):
                self.assertRaises(BadTree, trees.check_tree, tree)

    def test_no_chances(self):
        rows = (((-1, 2), end(0)), ((3, 2), end(0)))
        self.assertRaises(BadPart, trees.check_tree, luck(*rows))
        self.assertRaises(BadPart, trees.check_tree, choose(luck(*rows)))
        self.assertRaises(BadPart, trees.check_tree, luck(((1, 0), end(0))))
        self.assertRaises(BadPart, trees.check_tree, end(1, 0))

    def test_no_trees(self):
        kinds = [("choose", ()), ("choose", []), ("stop", ()), ("End", (1, 1)), ("", ()), (), ("end",), ("luck",),
                 ("end", (1, 1), ()), ("end", 5), ("end", (1,)), ("end", (1, 2, 3)), ("luck", 5), ("luck", (5,)),
                 ("luck", ((HALF,), (HALF,))), ("choose", 5), None, 7, "end", (0, ()), ("choose", (5,))]
        for tree in kinds:
            for one in (tree, choose(end(0), tree), luck(((1, 1), tree))):
                with self.subTest(tree=one):
                    self.assertRaises(BadTree, trees.check_tree, one)


class PapersTest(unittest.TestCase):
    def changed(self, tree, paper):
        """Return (tree's place, change) papers: each worth of a paper changed by a half up and down."""
        rows = []
        for sign in (1, -1):
            worth = small(Fraction(*paper[0]) + Fraction(sign, 2))
            rows.append((sign, True, (worth, paper[1])))
            for at, (one, inner) in enumerate(zip(within(tree), paper[1])):
                for way, is_top, other in self.changed(one, inner):
                    if way == sign:
                        rows.append((way, False, (paper[0], paper[1][:at] + (other,) + paper[1][at + 1:])))
        return rows

    def is_taken(self, tree, paper):
        """Tell, in Fractions, whether no end's, no mean and no choice is above its worth."""
        value = Fraction(*paper[0])
        inner = [Fraction(*one[0]) for one in paper[1]]
        if tree[0] == "end":
            least = Fraction(*tree[1])
        elif tree[0] == "luck":
            least = sum(Fraction(*row[0]) * one for row, one in zip(tree[1], inner))
        else:
            least = max(inner)
        return least <= value and all(self.is_taken(one, other) for one, other in zip(within(tree), paper[1]))

    def test_values_of(self):
        for tree in TREES:
            found = trees.values_of(tree)
            self.assertEqual(found, self.paper(tree))
            self.assertTrue(is_all_tuples(trees.values_of(listed(tree))))

    def paper(self, tree):
        """Return a tree's paper by trying all plans of each tree within."""
        return small(best_of(tree)), tuple(self.paper(inner) for inner in within(tree))

    def test_papers_that_show_as_much(self):
        for tree in TREES:
            paper, best = trees.values_of(tree), trees.plan(tree)
            self.assertIsNone(trees.check_values(tree, paper))
            self.assertEqual(trees.check_plan(tree, best, paper), small(best_of(tree)))
            self.assertEqual(trees.check_plan(listed(tree), listed(best), listed(paper)), small(best_of(tree)))

    def test_only_best_plans_are_taken(self):
        for tree in TREES:
            paper = trees.values_of(tree)
            for steps in plans_of(tree):
                if mean_of(tree, steps) == best_of(tree):
                    self.assertEqual(trees.check_plan(tree, steps, paper), paper[0])
                else:
                    self.assertRaises(BadPaper, trees.check_plan, tree, steps, paper)

    def test_papers_that_show_more_or_less(self):
        for tree in TREES:
            for sign, is_top, paper in self.changed(tree, trees.values_of(tree)):
                if not self.is_taken(tree, paper):
                    self.assertRaises(BadPaper, trees.check_values, tree, paper)
                    self.assertRaises(BadPaper, trees.check_plan, tree, trees.plan(tree), paper)
                    continue
                self.assertIsNone(trees.check_values(tree, paper))
                if is_top:
                    self.assertRaises(BadPaper, trees.check_plan, tree, trees.plan(tree), paper)
                else:
                    self.assertEqual(trees.check_plan(tree, trees.plan(tree), paper), paper[0])

    def test_a_paper_may_tell_more_within_but_not_for_the_whole(self):
        tree = choose(end(5), choose(end(1), end(0)))
        bare = ((1, 1), ())
        within_more = ((5, 1), (((5, 1), ()), ((5, 1), (bare, ((4, 1), ())))))
        self.assertEqual(trees.check_plan(tree, (0, ()), within_more), (5, 1))
        self.assertRaises(BadPaper, trees.check_plan, tree, (1, (0, ())), within_more)
        all_more = ((6, 1), within_more[1])
        self.assertIsNone(trees.check_values(tree, all_more))
        self.assertRaises(BadPaper, trees.check_plan, tree, (0, ()), all_more)

    def test_papers_of_another_form(self):
        flat = choose(end(0), end(1))
        one, zero = ((1, 1), ()), ((0, 1), ())
        for paper in ((), ((1, 1),), ((1, 1), ()), ((1, 1), (zero,)), ((1, 1), (zero, one, one)), (1, (zero, one)),
                      ((1, 1), (zero, one), ()), ((1, 1), (zero, ((1, 1), (one,)))), ((1, 1), ((), ())),
                      ((1, 1), 5), None, 5, ((1, 1), (zero, (5, ()))), ((1, 1), (zero, 5))):
            with self.subTest(paper=paper):
                self.assertRaises(BadPaper, trees.check_values, flat, paper)
                self.assertRaises(BadPaper, trees.check_plan, flat, (1, ()), paper)

    def test_plans_of_another_form(self):
        for tree in TREES:
            paper = trees.values_of(tree)
            for steps in (None, 5, (99, ()), ((), (), (), (), ())):
                self.assertRaises(BadTree, trees.check_plan, tree, steps, paper)


class NewsTest(unittest.TestCase):
    def test_news_worth(self):
        values = [(0, 1), (1, 1), (-3, 2), (2, 1)]
        for first in product(values, repeat=2):
            for second in product(values, repeat=2):
                rows = [((2, 6), first), ((2, 3), second)]
                known = sum(Fraction(*chance) * max(Fraction(*one) for one in worths) for chance, worths in rows)
                blind = max(sum(Fraction(*chance) * Fraction(*worths[at]) for chance, worths in rows)
                            for at in range(2))
                self.assertEqual(trees.news_worth(rows), small(known - blind))
        self.assertEqual(trees.news_worth([(HALF, [(1, 1), (0, 1)]), (HALF, [(0, 1), (1, 1)])]), (1, 2))
        self.assertEqual(trees.news_worth((((1, 1), ((7, 3),)),)), (0, 1))

    def test_news_worth_refuses(self):
        two = ((0, 1), (1, 1))
        for rows in ([], (), [(HALF, two)], [(HALF, two), ((1, 3), two)], [((1, 1), two), (HALF, two)],
                     [(HALF, two), (HALF, two[:1])], [(HALF, two[:1]), (HALF, two)], [((1, 1), ())],
                     [(HALF, two), (HALF, ())], [(HALF, ()), (HALF, ())]):
            self.assertRaises(BadTree, trees.news_worth, rows)
        for chances in (((3, 2), (-1, 2)), ((-1, 2), (3, 2)), ((1, 0), (1, 1))):
            self.assertRaises(BadPart, trees.news_worth, [(chance, two) for chance in chances])
