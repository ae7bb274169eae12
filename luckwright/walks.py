"""Walks: places with chances to go on, where one comes to, when, and how it is in the long run."""

from luckwright.errors import BadPaper, BadSize, BadTree
from luckwright.lines import by_row, check_rows, solved, step
from luckwright.parts import NOUGHT, ONE, is_less, minus, over, plus, shared, times, total


class Walk:
    """Square rows of chances to go from each place to each."""

    def __init__(self, rows):
        self.rows = check_rows(rows)
        self.many = len(self.rows)

    def after(self, place, count):
        """Return the chances of all places so many steps from one; BadSize below nought."""
        if count < 0 or not 0 <= place < self.many:
            raise BadSize("a place that isn't there, or fewer steps than none")
        found = one_at(place, self.many)
        for _ in range(count):
            found = step(found, self.rows)
        return found

    def reached(self, place):
        """Return the places that one may come to, itself too, in order."""
        return tuple(sorted(fewest_steps(self.rows, place)))

    def rings(self):
        """Return the lots of places that come to each other, in order."""
        reached = [self.reached(place) for place in range(self.many)]
        found = []
        for place in range(self.many):
            ring = tuple([other for other in reached[place] if place in reached[other]])
            if ring[0] == place:
                found.append(ring)
        return tuple(found)

    def closed(self):
        """Return the lots that one never leaves, in order."""
        return tuple([ring for ring in self.rings() if self.reached(ring[0]) == ring])

    def period(self, place):
        """Return the greatest number that goes into all counts of steps from a place to itself, nought for none."""
        steps = fewest_steps(self.rows, place)
        ring = [other for other in sorted(steps) if place in self.reached(other)]
        found = 0
        for one in ring:
            for other in ring:
                if self.rows[one][other][0] > 0:
                    # Two ways to a place, gone on with to the start, differ by what two rounds differ by.
                    found = shared(found, steps[one] + 1 - steps[other])
        return found

    def long_run(self):
        """Return the only chances that a step doesn't change, None where there are many."""
        rows = [one_less([row[place] for row in self.rows], place) for place in range(self.many)]
        return solved([*rows, [ONE] * self.many], [NOUGHT] * self.many + [ONE])

    def ends_in(self, goals):
        """Return, for each place, the chance to come ever to some places: the least that can be."""
        ends = [place for place in range(self.many) if place in goals]
        # Where no goal is ever come to, the sums hold for any chance: the least is nought.
        left = [place for place in range(self.many)
                if place not in ends and any([other in ends for other in self.reached(place)])]
        found = self.means_within(left, [total([self.rows[place][goal] for goal in ends]) for place in left])
        for end in ends:
            found[end] = ONE
        return tuple([found.get(place, NOUGHT) for place in range(self.many)])

    def steps_to(self, goals):
        """Return, for each place, the mean count of steps till some places, None where they may never be come to."""
        chances = self.ends_in(goals)
        left = [place for place in range(self.many) if place not in goals and chances[place] == ONE]
        found = self.means_within(left, [ONE] * len(left))
        for place in range(self.many):
            if place in goals:
                found[place] = NOUGHT
        return tuple([found.get(place) for place in range(self.many)])

    def means_within(self, places, values):
        """Return a table of places to parts, each its value more than their mean one step on within the places."""
        rows = [one_less([self.rows[place][other] for other in places], at) for at, place in enumerate(places)]
        return dict(zip(places, solved(rows, values)))

    def is_fair_back(self):
        """Tell whether the long run goes from each place to each as much as back; BadTree for no one long run."""
        chances = self.long_run()
        if chances is None:
            raise BadTree("many long runs")
        flows = [[times(chance, way) for way in row] for chance, row in zip(chances, self.rows)]
        return all([flows[one][other] == flows[other][one] for one in range(self.many) for other in range(one)])


def one_at(place, many):
    """Return a row of parts: one at a place, nought at the others."""
    return tuple([ONE if other == place else NOUGHT for other in range(many)])


def one_less(row, place):
    """Return the row that is one at a place, nought at the others, less another row."""
    return [minus(one, other) for one, other in zip(one_at(place, len(row)), row)]


def fewest_steps(rows, place):
    """Return a table of the places that one may come to from a place, itself too, to the fewest steps there."""
    found = {place: 0}
    order = [place]
    at = 0
    while at < len(order):
        here = order[at]
        for other, chance in enumerate(rows[here]):
            if chance[0] > 0 and other not in found:
                found[other] = found[here] + 1
                order.append(other)
        at = at + 1
    return found


def check_ends(walk, goals, chances):
    """Return True where chances, one at goals, none below nought, are no less than the mean one step on; BadPaper."""
    if len(chances) != walk.many or any([chances[goal] != ONE for goal in goals]):
        raise BadPaper("not a chance for each place, or not one at a goal")
    for place in range(walk.many):
        if chances[place][0] < 0:
            raise BadPaper("a chance below nought")
        if place not in goals and is_less(chances[place], by_row(walk.rows[place], chances)):
            raise BadPaper("a chance that is too little")
    return True


def pooled(walk, lots):
    """Return the walk between lots of places, none bare, where each place of a lot goes alike to each lot; BadTree."""
    places = sorted([place for lot in lots for place in lot])
    if places != list(range(walk.many)) or any([len(lot) == 0 for lot in lots]):
        raise BadTree("a bare lot, or not each place once in lots")
    rows = []
    for lot in lots:
        ways = [by_lots(walk.rows[place], lots) for place in lot]
        if any([way != ways[0] for way in ways]):
            raise BadTree("places of a lot that go unlike")
        rows.append(ways[0])
    return Walk(rows)


def by_lots(row, lots):
    """Return the chances of a row, those of each lot added."""
    return [total([row[place] for place in lot]) for lot in lots]


def back(walk):
    """Return the walk as it is seen backwards in the long run; BadTree for none, or a place never come to."""
    chances = walk.long_run()
    if chances is None or any([chance[0] == 0 for chance in chances]):
        raise BadTree("no one long run, or a place never come to in it")
    places = list(range(walk.many))
    return Walk([[over(times(chances[other], walk.rows[other][place]), chances[place]) for other in places]
                 for place in places])


def visits(walk, place, count):
    """Return the mean counts of times at each place within so many steps from one, the start too; BadSize."""
    if count < 0:
        raise BadSize("fewer steps than none")
    here = walk.after(place, 0)
    found = here
    for _ in range(count):
        here = step(here, walk.rows)
        found = tuple([plus(one, other) for one, other in zip(found, here)])
    return found
