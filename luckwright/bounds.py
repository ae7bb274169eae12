"""Bounds: what a chance can be at least and at most by what is told of others, with tables that show both."""

from luckwright.errors import BadPaper, BadPart, BadSize
from luckwright.parts import (NOUGHT, ONE, check_chance, greater, greatest_of, is_less, lesser, minus, other_way, over,
                              part, plus, times, total)


def both_bounds(one, other):
    """Return (least, greatest) chances that two things come together; BadPart."""
    first, second = check_chance(one), check_chance(other)
    return greater(NOUGHT, minus(plus(first, second), ONE)), lesser(first, second)


def either_bounds(one, other):
    """Return (least, greatest) chances that one of two things comes; BadPart."""
    low, high = both_bounds(one, other)
    added = plus(one, other)
    return minus(added, high), minus(added, low)


def table(one, other, both):
    """Return (both, the first alone, the second alone, none) chances; BadPart for a chance of both that can't be."""
    low, high = both_bounds(one, other)
    if is_less(both, low) or is_less(high, both):
        raise BadPart("a chance of both that can't be")
    rows = (part(both[0], both[1]), minus(one, both), minus(other, both))
    return (*rows, minus(ONE, total(rows)))


def check_both(one, other, rows):
    """Return the chance of both by a table that has two things' chances and is one in all; BadPaper."""
    if len(rows) != 4 or any([chance[0] < 0 for chance in rows]) or total(rows) != ONE:
        raise BadPaper("no table of four chances that are one in all")
    if plus(rows[0], rows[1]) != part(one[0], one[1]) or plus(rows[0], rows[2]) != part(other[0], other[1]):
        raise BadPaper("a table of other chances")
    return part(rows[0][0], rows[0][1])


def any_bounds(chances):
    """Return (least, greatest) chances that any of some things comes, nought for none; BadPart."""
    rows = [check_chance(chance) for chance in chances]
    return greatest_of([NOUGHT, *rows]), lesser(ONE, total(rows))


def all_bounds(chances):
    """Return (least, greatest) chances that all of some things come, one for none; BadPart."""
    low, high = any_bounds([other_way(check_chance(chance)) for chance in chances])
    return other_way(high), other_way(low)


def far_bound(mean, value):
    """Return the greatest chance that a number never below nought is a value or more, by its mean; BadSize."""
    if mean[0] < 0 or value[0] <= 0:
        raise BadSize("a mean below nought, or a value that isn't above it")
    return lesser(ONE, over(mean, value))


def check_far(scatter, far):
    """Refuse with BadSize a mean square below nought, or a way from the mean that isn't above it."""
    if scatter[0] < 0 or far[0] <= 0:
        raise BadSize("a mean square below nought, or no way from the mean")


def scatter_bound(scatter, far):
    """Return the greatest chance that a number is so far from its mean or further, by its mean square; BadSize."""
    check_far(scatter, far)
    return lesser(ONE, over(scatter, times(far, far)))


def one_side_bound(scatter, far):
    """Return the greatest chance that a number is so far above its mean or further, by its mean square; BadSize."""
    check_far(scatter, far)
    return over(scatter, plus(scatter, times(far, far)))


def one_side_paper(scatter, far):
    """Return ((value, chance), ..) of a number with mean nought that reaches one_side_bound; BadSize."""
    chance = one_side_bound(scatter, far)
    return (part(far[0], far[1]), chance), (minus(NOUGHT, over(scatter, far)), other_way(chance))


def where(both, one):
    """Return the chance of a thing where another comes: of both by the other's; BadPart by nought."""
    return check_chance(over(both, check_chance(one)))


def turned(chance, yes, no):
    """Return the chance of a thing when a sign comes, which comes by yes where it is so, else by no; BadPart."""
    both = times(check_chance(chance), check_chance(yes))
    other = times(other_way(chance), check_chance(no))
    return over(both, plus(both, other))


def all_apart(rows):
    """Tell whether two numbers don't hang on each other: a table of (one, other) to chances, one in all; BadPaper."""
    chances = list(rows.values())
    if total(chances) != ONE or any([chance[0] < 0 for chance in chances]):
        raise BadPaper("a chance below nought, or a table that isn't one in all")
    firsts, seconds = {}, {}
    for (one, other), chance in rows.items():
        firsts[one] = plus(firsts.get(one, NOUGHT), chance)
        seconds[other] = plus(seconds.get(other, NOUGHT), chance)
    return all([times(firsts[one], seconds[other]) == plus(NOUGHT, rows.get((one, other), NOUGHT))
                for one in firsts for other in seconds])
