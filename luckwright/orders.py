"""Orders: things put in order by luck alone: how many stand wrong, stay, turn in rings, or top all ahead."""

from itertools import permutations

from luckwright.counts import choose, crossings, cycles, none_home
from luckwright.errors import BadSize
from luckwright.parts import NOUGHT, ONE, is_less, minus, part, plus, times
from luckwright.spreads import Spread, even


def check_many(many):
    """Return a count from one on; BadSize."""
    if many < 1:
        raise BadSize("fewer than one")
    return many


def wrong_pairs(many):
    """Return the spread of how many pairs stand the wrong way round; BadSize."""
    return Spread(dict(enumerate(crossings(check_many(many)))))


def at_home(many):
    """Return the spread of how many stand at their own places; BadSize."""
    check_many(many)
    return Spread({count: choose(many, count) * none_home(many - count) for count in range(many + 1)})


def rings(many):
    """Return the spread of how many rings an order has; BadSize."""
    check_many(many)
    return Spread({count: cycles(many, count) for count in range(1, many + 1)})


def tops(many):
    """Return the spread of how many top all ahead of them: as many ways as rings; BadSize."""
    return rings(many)


def best_chance(many, skipped):
    """Return the chance to take the best: so many are let go, then the first above all ahead is taken; BadSize."""
    if not 0 <= skipped < check_many(many):
        raise BadSize("as many let go as there are, or fewer than none")
    if skipped == 0:
        return part(1, many)
    # The best is taken at a place where the best of all ahead of it stands among those let go.
    found = NOUGHT
    for ahead in range(skipped, many):
        found = plus(found, part(skipped, many * ahead))
    return found


def best_skipped(many):
    """Return the fewest to be let go by which best_chance is greatest; BadSize."""
    # To let go one more pays just where, from there on, one by each count of those ahead adds up to more than one.
    check_many(many)
    found = NOUGHT
    for skipped in range(many - 1, 0, -1):
        found = plus(found, part(1, skipped))
        if is_less(ONE, found):
            return skipped
    return 0


def longest_rise(row):
    """Return how long the longest rising part is that one may leave of a row."""
    # For each length, the least end of a rising part that is so long.
    ends = []
    for value in row:
        place = len([end for end in ends if end < value])
        ends[place:place + 1] = [value]
    return len(ends)


def rise_spread(many):
    """Return the spread of longest rises over all orders; BadSize past seven."""
    if check_many(many) > 7:
        raise BadSize("more than seven")
    return even([longest_rise(order) for order in permutations(range(many))])


def same_ring(many):
    """Return the chance that two told things stand in one ring; BadSize below two."""
    if many < 2:
        raise BadSize("fewer than two")
    return part(1, 2)


def all_found(many, tries):
    """Return the chance that each of many finds itself going its ring on no further than so many tries; BadSize."""
    check_many(many)
    if tries < 0:
        raise BadSize("fewer tries than none")
    # The first one's ring is of each length alike often, and leaves an order of the others; of chances that are
    # so made of those ahead of them, one and the next differ by a share of the one that is no longer among them.
    chances = [ONE]
    for count in range(1, many + 1):
        gone = chances[count - tries - 1] if count > tries else NOUGHT
        chances.append(minus(chances[count - 1], times(gone, part(1, count))))
    return chances[many]
