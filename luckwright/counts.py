"""Counts: how many ways there are."""

from math import comb, perm

from luckwright.errors import BadSize
from luckwright.parts import raised


def check_count(many):
    """Return a count from nought on; BadSize."""
    if many < 0:
        raise BadSize("a count below nought")
    return many


def factorial(many):
    """Return in how many orders so many stand; BadSize below nought."""
    check_count(many)
    return perm(many, many)


def choose(many, few):
    """Return in how many ways few are taken of many, nought where few are below nought or more; BadSize."""
    check_count(many)
    if few < 0:
        return 0
    return comb(many, few)


def falling(many, few):
    """Return in how many ways few of many are put in order; BadSize."""
    return perm(check_count(many), check_count(few))


def split_ways(sizes):
    """Return in how many ways all are put in lots of sizes; BadSize."""
    found = 1
    many = 0
    for size in sizes:
        many = many + check_count(size)
        found = found * choose(many, size)
    return found


def none_home(many):
    """Return how many orders leave none at its place; BadSize."""
    check_count(many)
    found = 1
    sign = 1
    for count in range(1, many + 1):
        sign = -sign
        found = found * count + sign
    return found


def onto(many, few):
    """Return in how many ways many go to few, each of these having one at least; BadSize."""
    check_count(many)
    check_count(few)
    found = 0
    sign = 1
    for bare in range(few + 1):
        found = found + sign * choose(few, bare) * raised(few - bare, many)
        sign = -sign
    return found


def lots(many, few):
    """Return in how many ways many are put in few lots, none bare, lots without names; BadSize."""
    return onto(many, few) // factorial(few)


def sums(many, few):
    """Return in how many ways many are the sum of few numbers from nought on, in order; BadSize."""
    check_count(many)
    check_count(few)
    if few == 0:
        return 1 if many == 0 else 0
    return choose(many + few - 1, few - 1)


def parts_of(many, most):
    """Return in how many ways a number is a sum of ones up to a most, without order; BadSize."""
    check_count(many)
    check_count(most)
    ways = [1] + [0] * many
    for size in range(1, min(most, many) + 1):
        for number in range(size, many + 1):
            ways[number] = ways[number] + ways[number - size]
    return ways[many]


def cycles(many, few):
    """Return how many orders of many have so many rings; BadSize."""
    check_count(many)
    check_count(few)
    if few > many:
        return 0
    row = [1] + [0] * few
    for count in range(many):
        # One more stands in a ring of its own, or right behind any one of those that stand in rings.
        row = [count * row[0]] + [row[rings - 1] + count * row[rings] for rings in range(1, few + 1)]
    return row[few]


def crossings(many):
    """Return a row: how many orders of many have nought, one, two and so on pairs the wrong way round; BadSize."""
    check_count(many)
    row = [1]
    for count in range(1, many):
        row = [sum(row[max(0, pairs - count):pairs + 1]) for pairs in range(len(row) + count)]
    return tuple(row)


def ahead_ways(yes, no):
    """Return in how many orders of yes and no votes yes is ahead at each vote, one for no votes; BadSize."""
    check_count(yes)
    check_count(no)
    if yes + no == 0:
        return 1
    if yes <= no:
        return 0
    # The first vote is a yes. Of the orders behind it, those that come level are as many as start with a no.
    return choose(yes + no - 1, yes - 1) - choose(yes + no - 1, yes)
