"""Trees: luck and choices one behind another, what they are worth, and the best plan with a paper.

No def here calls itself: a tree may be deeper than Python's calls go.
"""

from luckwright.errors import BadPaper, BadTree
from luckwright.parts import NOUGHT, ONE, check_chance, greatest_of, is_less, minus, part, times, total


def is_row(one):
    """Tell whether something is a list or a tuple."""
    return isinstance(one, (tuple, list))


def is_pair(one):
    """Tell whether something is a list or a tuple of two."""
    return is_row(one) and len(one) == 2


def right_within(tree):
    """Return a list of the trees right within a tree as they stand; BadTree for what has no tree's form."""
    if not is_pair(tree) or not is_row(tree[1]):
        raise BadTree("no tree: not a kind and a row")
    kind, rows = tree
    if kind == "end" and len(rows) == 2:
        return []
    if kind == "luck" and all([is_pair(row) for row in rows]):
        return [row[1] for row in rows]
    if kind == "choose":
        return list(rows)
    raise BadTree("no tree: not an end, luck or a choice")


def folded(tree, made):
    """Return what a function makes of a tree and of a list of what it made of the trees right within it."""
    trees = [tree]
    bounds = []
    while len(bounds) < len(trees):
        inner = right_within(trees[len(bounds)])
        bounds.append((len(trees), len(trees) + len(inner)))
        trees.extend(inner)
    found = [None] * len(trees)
    # A tree stands ahead of those within it, so from the end back all of these are made already.
    for place in reversed(range(len(trees))):
        first, last = bounds[place]
        found[place] = made(trees[place], found[first:last])
    return found[0]


def rebuilt(tree, inner):
    """Return a tree in tuples, of trees within that are so already."""
    if tree[0] == "end":
        return "end", tuple(tree[1])
    if tree[0] == "luck":
        return "luck", tuple([(tuple(row[0]), one) for row, one in zip(tree[1], inner)])
    return "choose", tuple(inner)


def checked(tree, inner):
    """Return a tree in tuples, its parts made small, of trees within that are so already; BadTree."""
    if tree[0] == "end":
        return "end", end_of(tree)
    if tree[0] == "luck":
        chances = [check_chance(row[0]) for row in tree[1]]
        if total(chances) != ONE:
            raise BadTree("luck that is not one in all")
        return "luck", tuple(zip(chances, inner))
    if len(inner) == 0:
        raise BadTree("a choice of no trees")
    return "choose", tuple(inner)


def check_tree(tree):
    """Return a tree: ("end", part), ("luck", ((chance, tree), ..)) one in all, ("choose", a tree or more); BadTree."""
    return folded(tree, checked)


def end_of(tree):
    """Return the part that an end tells, made small."""
    top, low = tree[1]
    return part(top, low)


def mean_or_best(tree, worths):
    """Return the mean for luck, the greatest for a choice, of what the trees right within are worth."""
    if tree[0] == "luck":
        return total([times(row[0], one) for row, one in zip(tree[1], worths)])
    return greatest_of(worths)


def worth_of(tree, worths):
    """Return what a tree is worth when those right within it are worth so much."""
    if tree[0] == "end":
        return end_of(tree)
    return mean_or_best(tree, worths)


def worth(tree):
    """Return what a tree is worth in the mean when the best is chosen."""
    return folded(tree, worth_of)


def worth_and_plan(tree, inner):
    """Return (worth, best plan) of a tree by those of the trees right within it."""
    worths = [one[0] for one in inner]
    found = worth_of(tree, worths)
    if tree[0] != "choose":
        return found, tuple([one[1] for one in inner])
    first = worths.index(found)
    return found, (first, inner[first][1])


def plan(tree):
    """Return a best plan: () for an end, the plans of luck's trees, (number, plan) for the first best choice."""
    return folded(tree, worth_and_plan)[1]


def check_steps(tree, steps):
    """Refuse with BadTree a plan that hasn't a tree's form right at its top."""
    if not is_row(steps):
        raise BadTree("no plan")
    if tree[0] == "end":
        fits = len(steps) == 0
    elif tree[0] == "luck":
        fits = len(steps) == len(tree[1])
    else:
        fits = len(steps) == 2 and isinstance(steps[0], int) and 0 <= steps[0] < len(tree[1])
    if not fits:
        raise BadTree("another tree's plan")


def ends_by(tree, steps):
    """Return a list of (chance, part) rows, the ends that a plan comes to; BadTree for another tree's plan."""
    left = [(ONE, tree, steps)]
    found = []
    while len(left) > 0:
        chance, one, inner = left.pop()
        check_steps(one, inner)
        if one[0] == "end":
            found.append((chance, end_of(one)))
        elif one[0] == "luck":
            left.extend([(times(chance, row[0]), row[1], further) for row, further in zip(one[1], inner)])
        else:
            left.append((chance, one[1][inner[0]], inner[1]))
    return found


def worth_by(tree, steps):
    """Return what a tree is worth in the mean by a plan; BadTree for another's plan."""
    return total([times(chance, end) for chance, end in ends_by(tree, steps)])


def paper_of(tree, papers):
    """Return a tree's paper by those of the trees right within it."""
    return worth_of(tree, [paper[0] for paper in papers]), tuple(papers)


def values_of(tree):
    """Return a paper: (worth, papers of the trees within, in order)."""
    return folded(tree, paper_of)


def inner_trees(tree):
    """Return the trees within a tree, in order."""
    return tuple([folded(inner, rebuilt) for inner in right_within(tree)])


def check_plan(tree, steps, paper):
    """Return the worth of a plan that a paper shows to be best: no choice above its tree's worth; BadPaper, BadTree."""
    check_values(tree, paper)
    found = worth_by(tree, steps)
    if found != tuple(paper[0]):
        raise BadPaper("a plan that isn't worth what the paper tells")
    return found


def check_values(tree, paper):
    """Refuse with BadPaper a paper whose worths are less than ends tell, luck means, or any choice gives."""
    for one, shown in with_papers(tree, paper):
        least = worth_of(one, [inner[0] for inner in shown[1]])
        if is_less(shown[0], least):
            raise BadPaper("a worth that is too little")


def with_papers(tree, paper):
    """Return a list of (tree, paper) rows of a tree and all within it; BadPaper for a paper of another form."""
    rows = [(tree, paper)]
    place = 0
    while place < len(rows):
        one, shown = rows[place]
        inner = right_within(one)
        if not is_pair(shown) or not is_pair(shown[0]) or not is_row(shown[1]) or len(shown[1]) != len(inner):
            raise BadPaper("a paper of another form")
        rows.extend(list(zip(inner, shown[1])))
        place = place + 1
    return rows


def chance_of(tree, steps, test):
    """Return the chance that a plan ends where a function tells True of the end; BadTree."""
    return total([chance for chance, end in ends_by(tree, steps) if test(end)])


def surest(tree, test):
    """Return the greatest chance of any plan that it ends where a function tells True of the end."""
    def chance_at(one, chances):
        """Return the greatest chance of a tree by those of the trees right within it."""
        if one[0] == "end":
            return ONE if test(end_of(one)) else NOUGHT
        return mean_or_best(one, chances)

    return folded(tree, chance_at)


def plans_by(tree, inner):
    """Return all plans of a tree by all of each of the trees right within it."""
    if tree[0] == "choose":
        return tuple([(place, steps) for place, plans in enumerate(inner) for steps in plans])
    rows = [()]
    for plans in inner:
        rows = [(*row, steps) for row in rows for steps in plans]
    return tuple(rows)


def all_plans(tree):
    """Return all plans of a tree, in order of their choices."""
    return folded(tree, plans_by)


def news_worth(choices):
    """Return how much it is worth to be told luck ahead: rows (chance, worths by choice), one in all; BadTree."""
    if len(choices) == 0 or total([check_chance(row[0]) for row in choices]) != ONE:
        raise BadTree("luck that is not one in all")
    many = len(choices[0][1])
    if many == 0 or any([len(row[1]) != many for row in choices]):
        raise BadTree("no choices, or not the same for all luck")
    known = total([times(row[0], greatest_of(row[1])) for row in choices])
    means = [total([times(row[0], row[1][place]) for row in choices]) for place in range(many)]
    return minus(known, greatest_of(means))


def size_of(tree):
    """Return how many ends a tree has."""
    return folded(tree, lambda one, sizes: 1 if one[0] == "end" else sum(sizes))
