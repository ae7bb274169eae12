"""Trials: how unlikely what was seen would be by luck alone, by counting all orders, and seldom wrong bounds."""

from itertools import permutations

from luckwright.counts import check_count, choose
from luckwright.errors import BadSize
from luckwright.parts import check_chance, is_less, part, raised, times
from luckwright.spreads import Spread, even


def yes_no(many, yes):
    """Return the spread of how many yeses there are in so many by a chance; BadSize, BadPart."""
    if many < 0:
        raise BadSize("fewer tries than none")
    top, low = check_chance(yes)
    return Spread({count: choose(many, count) * raised(top, count) * raised(low - top, many - count)
                   for count in range(many + 1)})


def at_least(spread, seen):
    """Return the chance of what was seen or more."""
    return spread.chance_of(lambda value: value >= seen)


def at_most(spread, seen):
    """Return the chance of what was seen or less."""
    return spread.chance_of(lambda value: value <= seen)


def as_unlikely(spread, seen):
    """Return the chance of all that is no likelier than what was seen."""
    most = spread.weights.get(seen, 0)
    return part(sum([weight for weight in spread.weights.values() if weight <= most]), spread.whole)


def signs_test(pairs):
    """Return the chance, by luck alone, that as many pairs or more rise, or fall, as the more do; ties left out."""
    rises = len([1 for first, second in pairs if first < second])
    falls = len([1 for first, second in pairs if first > second])
    many, more = rises + falls, max(rises, falls)
    return yes_no(many, (1, 2)).chance_of(lambda count: max(count, many - count) >= more)


def sums_of(values, few):
    """Return the spread of the sum of so many of some numbers, each lot alike; BadSize."""
    if not 0 <= few <= len(values):
        raise BadSize("more numbers than there are, or fewer than none")
    # Ways by sums, for lots of none, one and so on up to so many of the numbers so far.
    ways = [{0: 1}] + [{} for count in range(few)]
    for value in values:
        ways = [ways[0]] + [with_moved(ways[count], ways[count - 1], value) for count in range(1, few + 1)]
    return Spread(ways[few])


def with_moved(ways, more, by):
    """Return a table of numbers to ways with another's added, its numbers moved on."""
    found = dict(ways)
    for number, count in more.items():
        found[number + by] = found.get(number + by, 0) + count
    return found


def two_lots(one, other):
    """Return the chance, by luck alone, that a lot as great as the first has a sum as far from its mean or further."""
    if len(one) == 0 or len(other) == 0:
        raise BadSize("a bare lot")
    values = [*one, *other]
    # A sum so often as there are numbers, less the mean so often: whole numbers, told apart without parts.
    mean = len(one) * sum(values)
    far = abs(sum(one) * len(values) - mean)
    return sums_of(values, len(one)).chance_of(lambda score: abs(score * len(values) - mean) >= far)


def ranks(values):
    """Return twice the places of numbers in order, from one on, alike ones sharing theirs."""
    rows = sorted(values)
    first, last = {}, {}
    for place, value in enumerate(rows):
        first.setdefault(value, place + 1)
        last[value] = place + 1
    return tuple([first[value] + last[value] for value in values])


def rank_test(one, other):
    """Return the chance of two_lots by numbers' places alone; BadSize."""
    places = ranks([*one, *other])
    return two_lots(places[:len(one)], places[len(one):])


def four_fields(a, b, c, d):
    """Return the chance, by luck alone with the same sums, of all tables (a b, c d) no likelier than this; BadSize."""
    if min(a, b, c, d) < 0:
        raise BadSize("a field below nought")
    tables = Spread({first: choose(a + b, first) * choose(c + d, a + c - first) for first in range(a + c + 1)})
    return as_unlikely(tables, a)


def runs(row):
    """Return how many runs of like ones a row has."""
    return len([1 for place in range(len(row)) if place == 0 or row[place] != row[place - 1]])


def runs_spread(ones, others):
    """Return the spread of how many runs orders of two kinds have, each order alike; BadSize for none."""
    if min(ones, others) < 0 or ones + others == 0:
        raise BadSize("none of either kind, or fewer than none of one")
    rows = {}
    for count in range(1, ones + others + 1):
        # The kind that begins has the half of the runs, or one more.
        few = count // 2
        more = count - few
        rows[count] = lots_of(ones, more) * lots_of(others, few) + lots_of(ones, few) * lots_of(others, more)
    return Spread(rows)


def lots_of(many, few):
    """Return in how many ways many alike ones are put in few lots in order, none bare."""
    check_count(many)
    check_count(few)
    if many == 0 or few == 0:
        return 1 if many == few else 0
    return choose(many - 1, few - 1)


def chance_bounds(many, seen, wrong, steps):
    """Return (low, high) of chances, even steps apart, at which both as much or more and as little or less are
    likelier than half of wrong; None for none; BadSize."""
    if not 0 <= seen <= many or steps < 1:
        raise BadSize("more seen than tried, fewer than none, or fewer steps than one")
    half = part(wrong[0], wrong[1] * 2)
    # As much or more grows likelier step by step, as little or less does so from the other end.
    low = first_step(steps, lambda at: is_less(half, at_least(yes_no(many, part(at, steps)), seen)))
    down = first_step(steps, lambda left: is_less(half, at_most(yes_no(many, part(steps - left, steps)), seen)))
    if low > steps - down:
        return None
    return part(low, steps), part(steps - down, steps)


def first_step(steps, test):
    """Return the first step of nought to so many from which on a function tells True, one more for none."""
    low, high = 0, steps + 1
    while low < high:
        half = (low + high) // 2
        if test(half):
            high = half
        else:
            low = half + 1
    return low


def held_down(chances, wrong):
    """Return the places, in order, held no luck: the least chance by all's share of wrong, the next by one fewer."""
    left = list(range(len(chances)))
    held = []
    while len(left) > 0:
        place = least_place(chances, left)
        if is_less(wrong, times(chances[place], (len(left), 1))):
            break
        held.append(place)
        left.remove(place)
    return tuple(sorted(held))


def least_place(chances, places):
    """Return the first of some places whose chance is the least."""
    found = places[0]
    for place in places:
        if is_less(chances[place], chances[found]):
            found = place
    return found


def order_chances(values, test):
    """Return the chance that a function tells True of an order of some values, each order alike; BadSize past seven."""
    if len(values) > 7:
        raise BadSize("more than seven values")
    rows = list(values)
    return even([1 if test(list(order)) else 0 for order in permutations(rows)]).chance(1)
