"""Couples: how far spreads are apart, which lies above which, and tables of both that show it."""

from luckwright.errors import BadPaper
from luckwright.parts import NOUGHT, is_less, least_of, lesser, minus, over, part, plus, times, total


def chances_of(spread):
    """Return a table of a spread's numbers to their chances."""
    return {value: spread.chance(value) for value in spread.numbers()}


def numbers_of(one, other):
    """Return a list of the numbers of either of two spreads, in order."""
    return sorted({**one.weights, **other.weights})


def apart(one, other):
    """Return the greatest difference of chances of any lot of numbers by two spreads."""
    return total([minus(one.chance(value), other.chance(value)) for value in lot_apart(one, other)])


def lot_apart(one, other):
    """Return the numbers likelier by the first of two spreads: the lot whose chances differ most."""
    return tuple([value for value in one.numbers() if is_less(other.chance(value), one.chance(value))])


def alike_table(one, other):
    """Return a table of (number, number) to chances that has both spreads and the most chance of alike ones."""
    alike = {value: lesser(one.chance(value), other.chance(value)) for value in numbers_of(one, other)}
    left = [(value, minus(chance, alike[value])) for value, chance in chances_of(one).items()]
    right = [(value, minus(chance, alike[value])) for value, chance in chances_of(other).items()]
    found = without_nought({(value, value): chance for value, chance in alike.items()})
    for key, chance in filled(left, right).items():
        found[key] = chance
    return found


def filled(left, right):
    """Return a table of two rows (number, chance), alike in all, filled from the first ones on."""
    found = {}
    rest = list(right)
    place = 0
    for number, chance in left:
        lacking = chance
        while lacking[0] > 0 and place < len(rest):
            other, ready = rest[place]
            share = lesser(lacking, ready)
            if share[0] > 0:
                found[(number, other)] = plus(found.get((number, other), NOUGHT), share)
            lacking, rest[place] = minus(lacking, share), (other, minus(ready, share))
            if rest[place][1] == NOUGHT:
                place = place + 1
    return found


def in_order_table(one, other):
    """Return the table of both spreads, without chances of nought, in which both rise together."""
    return filled(list(chances_of(one).items()), list(chances_of(other).items()))


def check_table(one, other, rows):
    """Return the chance of unlike numbers by a table that has two spreads; BadPaper."""
    lefts, rights = {}, {}
    unlike = NOUGHT
    for (first, second), chance in rows.items():
        if chance[0] < 0:
            raise BadPaper("a chance below nought")
        lefts[first] = plus(lefts.get(first, NOUGHT), chance)
        rights[second] = plus(rights.get(second, NOUGHT), chance)
        if first != second:
            unlike = plus(unlike, chance)
    if without_nought(lefts) != chances_of(one) or without_nought(rights) != chances_of(other):
        raise BadPaper("a table of other spreads")
    return unlike


def without_nought(rows):
    """Return a table without chances of nought."""
    return {key: chance for key, chance in rows.items() if chance[0] != 0}


def is_above(one, other):
    """Tell whether a spread lies above another: no number or less is likelier by it."""
    return not any([is_less(other.up_to(value), one.up_to(value)) for value in numbers_of(one, other)])


def check_above(one, other, rows):
    """Return True where a table of two spreads never has a lesser number of the first; BadPaper."""
    check_table(one, other, rows)
    if any([first < second and chance[0] > 0 for (first, second), chance in rows.items()]):
        raise BadPaper("a lesser number of the first")
    return True


def carried(one, other):
    """Return the least mean of steps by which one spread is carried to another."""
    found = NOUGHT
    numbers = numbers_of(one, other)
    for value, further in zip(numbers, numbers[1:]):
        # What one has more of up to a number than the other must be carried over each step behind it.
        more = minus(one.up_to(value), other.up_to(value))
        found = plus(found, part(abs(more[0]) * (further - value), more[1]))
    return found


def steps_by(rows):
    """Return the mean of steps between two numbers by a table."""
    return total([times(chance, (abs(first - second), 1)) for (first, second), chance in rows.items()])


def check_carried(one, other, rows, heights):
    """Return the mean of steps of a table that heights, changing by a step at most, show to be least; BadPaper."""
    check_table(one, other, rows)
    if any([value not in heights for value in numbers_of(one, other)]):
        raise BadPaper("a number without a height")
    places = sorted(heights)
    for value, further in zip(places, places[1:]):
        far = minus(heights[further], heights[value])
        if abs(far[0]) > (further - value) * far[1]:
            raise BadPaper("heights that are too steep")
    shown = minus(mean_of(one, heights), mean_of(other, heights))
    if shown != steps_by(rows):
        raise BadPaper("steps that aren't shown to be the least")
    return shown


def mean_of(spread, heights):
    """Return the mean of heights by a spread."""
    return total([times(spread.chance(value), heights[value]) for value in spread.numbers()])


def heights_for(one, other):
    """Return the heights that show carried to be least."""
    numbers = numbers_of(one, other)
    found = {numbers[0]: NOUGHT}
    height = 0
    for value, further in zip(numbers, numbers[1:]):
        # One is carried down where it has less up to a number, so there its heights rise.
        if is_less(one.up_to(value), other.up_to(value)):
            height = height + (further - value)
        if is_less(other.up_to(value), one.up_to(value)):
            height = height - (further - value)
        found[further] = part(height)
    return found


def share_of(one, other):
    """Return the greatest part of a spread that another has at each number."""
    return least_of([over(other.chance(value), one.chance(value)) for value in one.numbers()])
