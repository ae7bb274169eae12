"""Spreads: whole numbers and their chances, put together in all ways."""

from collections import defaultdict
from math import lcm

from luckwright.errors import BadSpread, NoChance
from luckwright.parts import NOUGHT, ONE, minus, over, part, raised, shared, times, total


class Spread:
    """A table of whole numbers to whole weights above nought, made small, and all weights' sum."""

    def __init__(self, weights):
        rows = {value: weights[value] for value in sorted(weights) if weights[value] != 0}
        if rows == {} or min(rows.values()) < 0:
            raise BadSpread("no weights, or one below nought")
        size = 0
        for weight in rows.values():
            size = shared(size, weight)
        self.weights = {value: weight // size for value, weight in rows.items()}
        self.whole = sum(self.weights.values())

    def numbers(self):
        """Return the numbers, in order."""
        return tuple(sorted(self.weights))

    def chance(self, value):
        """Return the chance of a number."""
        return part(self.weights.get(value, 0), self.whole)

    def chance_of(self, test):
        """Return the chance that a function tells True of the number."""
        return part(sum([weight for value, weight in self.weights.items() if test(value)]), self.whole)

    def up_to(self, value):
        """Return the chance of a number or less."""
        return self.chance_of(lambda number: number <= value)

    def mean(self):
        """Return the mean."""
        return self.moment(1)

    def moment(self, count):
        """Return the mean of the number so often times itself; BadSpread below nought."""
        if count < 0:
            raise BadSpread("a number less often than never times itself")
        return part(sum([raised(value, count) * weight for value, weight in self.weights.items()]), self.whole)

    def scatter(self):
        """Return the mean square from the mean."""
        return minus(self.moment(2), times(self.mean(), self.mean()))

    def middle(self):
        """Return the least number which, or less, is at least as likely as not."""
        below = 0
        for value in self.numbers():
            below = below + self.weights[value]
            if 2 * below >= self.whole:
                return value
        raise BadSpread("no weights")

    def likeliest(self):
        """Return the likeliest number, the least of as likely ones."""
        most = max(self.weights.values())
        return min([value for value, weight in self.weights.items() if weight == most])

    def given(self, test):
        """Return the spread where a function tells True of the number; NoChance where it never does."""
        rows = {value: weight for value, weight in self.weights.items() if test(value)}
        if rows == {}:
            raise NoChance("what is told never is")
        return Spread(rows)

    def through(self, change):
        """Return the spread of what a function tells of the number."""
        rows = defaultdict(int)
        for value, weight in self.weights.items():
            rows[change(value)] += weight
        return Spread(dict(rows))

    def shown(self):
        """Return ((number, weight) in order, all weights' sum)."""
        return tuple([(value, self.weights[value]) for value in self.numbers()]), self.whole


def sure(value):
    """Return the spread of one number."""
    return Spread({value: 1})


def even(values):
    """Return the spread of numbers as they stand, each alike; BadSpread for none."""
    rows = defaultdict(int)
    for value in values:
        rows[value] += 1
    return Spread(dict(rows))


def together(one, other, change):
    """Return the spread of what a function tells of two numbers that don't hang on each other."""
    rows = defaultdict(int)
    for first, weight in one.weights.items():
        for second, often in other.weights.items():
            rows[change(first, second)] += weight * often
    return Spread(dict(rows))


def added(one, other):
    """Return the spread of the sum of two numbers that don't hang on each other."""
    return together(one, other, lambda first, second: first + second)


def added_often(one, many):
    """Return the spread of the sum of so many such numbers, by halves; BadSpread below nought."""
    if many < 0:
        raise BadSpread("a sum of fewer numbers than none")
    if many == 0:
        return sure(0)
    half = added_often(one, many // 2)
    doubled = added(half, half)
    return added(doubled, one) if many & 1 else doubled


def greatest(one, other):
    """Return the spread of the greater of two numbers that don't hang on each other."""
    return together(one, other, lambda first, second: max(first, second))


def least(one, other):
    """Return the spread of the lesser of two numbers that don't hang on each other."""
    return together(one, other, lambda first, second: min(first, second))


def mixed(spreads, weights):
    """Return the spread of one of some, each by its weight; BadSpread."""
    if len(spreads) != len(weights) or len(spreads) == 0 or min(weights) < 0:
        raise BadSpread("not a weight from nought on for each of some spreads")
    common = 1
    for spread in spreads:
        common = lcm(common, spread.whole)
    rows = defaultdict(int)
    for spread, weight in zip(spreads, weights):
        for value, often in spread.weights.items():
            rows[value] += weight * often * (common // spread.whole)
    return Spread(dict(rows))


def side_of(first, second):
    """Return one where a number is more than another, nought where it is as much, else one below nought."""
    if first > second:
        return 1
    return 0 if first == second else -1


def beats(one, other):
    """Return the chances that one number is more than another that it doesn't hang on, as much, and less."""
    sides = together(one, other, side_of)
    return sides.chance(1), sides.chance(0), sides.chance(-1)


def taken_away(whole, one):
    """Return the spread which, added to one, gives a whole; NoChance where there is none."""
    left = {value: whole.chance(value) for value in whole.numbers()}
    low = one.numbers()[0]
    found = {}
    for value in whole.numbers():
        if left[value] != NOUGHT:
            # What is left of the least number comes only by the least of one, so it tells the chance.
            found[value - low] = over(left[value], one.chance(low))
            left = without_share(left, one, value - low, found[value - low])
    return from_chances(found)


def without_share(left, one, by, chance):
    """Return chances less those of a spread moved on by a number, which come by a chance; NoChance below nought."""
    found = dict(left)
    for value in one.numbers():
        rest = minus(found.get(value + by, NOUGHT), times(chance, one.chance(value)))
        if rest[0] < 0:
            raise NoChance("no spread gives this whole")
        found[value + by] = rest
    return found


def from_chances(rows):
    """Return the spread of a table of numbers to chances that are one in all; BadSpread."""
    if total(list(rows.values())) != ONE:
        raise BadSpread("chances that are not one in all")
    common = 1
    for chance in rows.values():
        common = lcm(common, chance[1])
    return Spread({value: chance[0] * (common // chance[1]) for value, chance in rows.items()})
