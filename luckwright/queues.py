"""Queues: how many wait, slot by slot, with room for so many, and branches of those who come of one."""

from luckwright.errors import BadSize
from luckwright.parts import NOUGHT, ONE, check_chance, is_less, minus, other_way, part, plus, power, times, total
from luckwright.spreads import added_often, mixed, sure
from luckwright.walks import Walk


def queue(comes, goes, room):
    """Return the walk of how many wait: one comes with a chance, then one that waits goes with another; BadSize."""
    if room < 1:
        raise BadSize("room for fewer than one")
    one_comes, one_goes = check_chance(comes), check_chance(goes)
    return Walk([slot(one_comes, one_goes, room, few) for few in range(room + 1)])


def slot(comes, goes, room, few):
    """Return the chances of how many wait behind a slot when few wait ahead of it."""
    row = [NOUGHT] * (room + 1)
    for there, chance in ((few, other_way(comes)), (min(few + 1, room), comes)):
        left = max(there - 1, 0)
        row[left] = plus(row[left], times(chance, goes))
        row[there] = plus(row[there], times(chance, other_way(goes)))
    return row


def lost(comes, goes, room):
    """Return the chance, in the long run, that one who comes finds no room, None where the long run isn't one."""
    chances = queue(comes, goes, room).long_run()
    return None if chances is None else chances[room]


def waiting(comes, goes, room):
    """Return the mean of those who wait in the long run, None where it isn't one."""
    chances = queue(comes, goes, room).long_run()
    if chances is None:
        return None
    return total([times(chance, (few, 1)) for few, chance in enumerate(chances)])


def least_room(comes, goes, most, chance):
    """Return the least room, up to a most, by which no more than a chance is lost, None for none; BadSize."""
    if most < 0:
        raise BadSize("a most below nought")
    one_comes, one_goes, least = check_chance(comes), check_chance(goes), check_chance(chance)
    for room in range(1, most + 1):
        found = lost(one_comes, one_goes, room)
        if found is not None and not is_less(least, found):
            return room
    return None


def children(spread, count):
    """Return the spread of those in so many generations from one, each having by a spread; BadSize below nought."""
    if count < 0:
        raise BadSize("fewer generations than none")
    found = sure(1)
    for _ in range(count):
        numbers = found.numbers()
        found = mixed([added_often(spread, many) for many in numbers], [found.weights[many] for many in numbers])
    return found


def gone_by(spread, count):
    """Return the chance that none is left by so many generations from one; BadSize below nought."""
    if count < 0:
        raise BadSize("fewer generations than none")
    found = NOUGHT
    for _ in range(count):
        found = series_at(spread, found)
    return found


def series_at(spread, chance):
    """Return the mean of a chance so often times itself as a spread's number tells; BadSize for some below nought."""
    if spread.numbers()[0] < 0:
        raise BadSize("a number below nought")
    return total([times(spread.chance(many), power(chance, many)) for many in spread.numbers()])


def dies_out(spread):
    """Tell whether none is left for sure, ever: one's mean is below one, or one with a chance of none."""
    mean = spread.mean()
    return is_less(mean, ONE) or (mean == ONE and spread.chance(0) != NOUGHT)


def ever_gone(spread, width):
    """Return (low, high), no further apart than told, between which the chance lies that none is left ever; BadSize."""
    if width[0] <= 0:
        raise BadSize("bounds no further apart than nought")
    none = series_at(spread, NOUGHT)
    if dies_out(spread):
        return ONE, ONE
    if none == NOUGHT:
        return NOUGHT, NOUGHT
    low, high = NOUGHT, ONE
    while is_less(width, minus(high, low)):
        half = times(plus(low, high), part(1, 2))
        # Below the chance of none ever the series lies above what it is asked at, between it and one below.
        if is_less(half, series_at(spread, half)):
            low = half
        else:
            high = half
    return low, high
