"""Sums: the spread of a sum kept up while numbers come and go, and of how many of some things come."""

from luckwright.counts import choose
from luckwright.errors import BadSize, NoSuch
from luckwright.parts import NOUGHT, ONE, check_chance, is_less, minus, part, plus, times
from luckwright.spreads import Spread, added, sure, taken_away
from luckwright.trials import at_least


class Sum:
    """Spreads by names, and the spread of their sum."""

    def __init__(self):
        self.rows = {}
        self.spread = sure(0)

    def put(self, name, spread):
        """Put a spread in; NoSuch for a name that is there."""
        if name in self.rows:
            raise NoSuch("a name that is there")
        self.spread = added(self.spread, spread)
        self.rows[name] = spread

    def take(self, name):
        """Take a spread out; NoSuch."""
        self.spread = self.without(name)
        del self.rows[name]

    def without(self, name):
        """Return the spread of the sum without a name; NoSuch."""
        if name not in self.rows:
            raise NoSuch("no such name")
        return taken_away(self.spread, self.rows[name])

    def names(self):
        """Return the names, in order."""
        return tuple(sorted(self.rows))

    def needed(self, name, goal):
        """Return the chance that the sum is a goal or more with a name and without it; NoSuch."""
        rest = self.without(name)
        return at_least(self.spread, goal), at_least(rest, goal)


def how_many(chances):
    """Return the spread of how many of some things come that don't hang on each other; BadPart."""
    cases = [1]
    for top, low in [check_chance(chance) for chance in chances]:
        stays = [count * (low - top) for count in cases]
        comes = [count * top for count in cases]
        cases = [one + other for one, other in zip([*stays, 0], [0, *comes])]
    return Spread(dict(enumerate(cases)))


def from_overlaps(overlaps):
    """Return, for each count, the chance that just so many things come, by all lots' chances added, size by size from
    nought on; BadSize for sums that can't be."""
    found = []
    for count in range(len(overlaps)):
        whole = NOUGHT
        for size in range(count, len(overlaps)):
            # Where more come, each lot of so many of them was counted: it is taken off again, and so on.
            share = times((choose(size, count), 1), overlaps[size])
            whole = plus(whole, share) if (size - count) & 1 == 0 else minus(whole, share)
        if whole[0] < 0:
            raise BadSize("sums that can't be")
        found.append(whole)
    if found != [] and times(overlaps[0], ONE) != ONE:
        raise BadSize("chances that are not one in all")
    return tuple(found)


def overlaps_of(spread, many):
    """Return all lots' chances added, size by size from nought on, when a spread tells how many of many come."""
    return tuple([part(sum([choose(count, size) * weight for count, weight in spread.weights.items()]), spread.whole)
                  for size in range(many + 1)])


def shortfall(spread, goal):
    """Return the mean of what is lacking up to a goal."""
    return spread.through(lambda value: max(0, goal - value)).mean()


def least_goal(spread, chance):
    """Return the least number which, or less, comes with a chance or more; BadPart."""
    least = check_chance(chance)
    return [value for value in spread.numbers() if not is_less(spread.up_to(value), least)][0]
