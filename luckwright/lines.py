"""Lines: exact sums of unknowns, solved."""

from luckwright.errors import BadTree
from luckwright.parts import NOUGHT, ONE, minus, over, part, times, total


def solved(rows, values):
    """Return the only parts that rows by them make values, () for no rows, None where there are none or many."""
    if len(rows) == 0:
        return ()
    many = len(rows[0])
    lines = [[part(*one) for one in (*row, value)] for row, value in zip(rows, values)]
    for place in range(many):
        first = first_with(lines, place)
        if first is None:
            return None
        lines[place], lines[first] = lines[first], lines[place]
        lines = cleared(lines, place)
    if any([line[many] != NOUGHT for line in lines[many:]]):
        return None
    return tuple([line[many] for line in lines[:many]])


def first_with(lines, place):
    """Return which line, from a place's own on, is the first that has an unknown, None for none."""
    for at in range(place, len(lines)):
        if lines[at][place] != NOUGHT:
            return at
    return None


def cleared(lines, place):
    """Return lines in which only a place's own has an unknown, once."""
    own = [over(one, lines[place][place]) for one in lines[place]]
    found = [without(line, own, line[place]) for line in lines]
    found[place] = own
    return found


def without(line, own, often):
    """Return a line less another so often."""
    if often == NOUGHT:
        return line
    return [minus(one, times(often, other)) for one, other in zip(line, own)]


def by_row(row, values):
    """Return the sum of a row's parts, each by a value."""
    return total([times(one, value) for one, value in zip(row, values)])


def check_rows(rows):
    """Return a list of tuples: square rows of chances, each one in all, made small; BadTree."""
    found = [tuple([part(*one) for one in row]) for row in rows]
    if found == [] or any([len(row) != len(found) for row in found]):
        raise BadTree("rows that are not square")
    if any([one[0] < 0 for row in found for one in row]) or any([total(row) != ONE for row in found]):
        raise BadTree("a row of chances that is not one in all")
    return found


def step(start, rows):
    """Return the chances of places one step on."""
    return tuple([by_row(start, [row[place] for row in rows]) for place in range(len(rows))])
