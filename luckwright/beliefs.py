"""Beliefs: chances of what may be, changed by what is seen, and when to stop looking."""

from luckwright.errors import BadSize, BadSpread, NoChance
from luckwright.hidden import max_place
from luckwright.parts import NOUGHT, ONE, check_chance, is_less, minus, over, part, plus, power, times, total


class Beliefs:
    """Names with chances, one in all."""

    def __init__(self, rows):
        self.rows = tuple([(name, check_chance(chance)) for name, chance in rows])
        if len(dict(self.rows)) != len(self.rows) or total([row[1] for row in self.rows]) != ONE:
            raise BadSpread("a name that stands twice, or chances that are not one in all")

    def chance(self, name):
        """Return a name's chance, nought for none of them."""
        return dict(self.rows).get(name, NOUGHT)

    def with_signs(self, chances):
        """Return a list of each name's chance by that of something seen, which comes by a chance for each; BadSpread.
        """
        if len(chances) != len(self.rows):
            raise BadSpread("not a chance for each name")
        return [times(row[1], check_chance(one)) for row, one in zip(self.rows, chances)]

    def seen(self, chances):
        """Return the beliefs behind something seen, which comes by a chance for each name; NoChance, BadSpread."""
        both = self.with_signs(chances)
        whole = total(both)
        if whole[0] == 0:
            raise NoChance("what is seen can't be")
        return Beliefs([(row[0], over(one, whole)) for row, one in zip(self.rows, both)])

    def before(self, chances):
        """Return the chance of seeing what comes by a chance for each name, in order; BadSpread."""
        return total(self.with_signs(chances))

    def likeliest(self):
        """Return the first likeliest name."""
        return self.rows[max_place([row[1] for row in self.rows])][0]

    def mean(self, values):
        """Return the mean of values, one for each name in order; BadSpread."""
        if len(values) != len(self.rows):
            raise BadSpread("not a value for each name")
        return total([times(row[1], value) for row, value in zip(self.rows, values)])

    def shown(self):
        """Return the rows."""
        return self.rows


def after(beliefs, yes, many, good):
    """Return the beliefs behind good yeses of so many, each yes by a chance for each name; NoChance, BadSize."""
    if not 0 <= good <= many:
        raise BadSize("more yeses than tries, or fewer than none")
    return beliefs.seen([row_of(check_chance(one), many, good) for one in yes])


def row_of(yes, many, good):
    """Return the chance of a row of so many tries, good ones of them yeses, each by a chance."""
    return times(power(yes, good), power(minus(ONE, yes), many - good))


def two_ways(first, second, ends, most):
    """Return (first taken, second taken, neither) chances, by the first's yes, of a trial that goes on, so far at most,
    while the odds of the second to the first lie between ends; BadSize."""
    if most < 0 or not is_less(ends[0], ends[1]):
        raise BadSize("fewer tries than none, or ends that don't rise")
    yes, other = check_chance(first), check_chance(second)
    if yes[0] in (0, yes[1]) or other[0] in (0, other[1]):
        raise BadSize("a sure chance")
    ended = [NOUGHT, NOUGHT]
    going = {0: ONE}
    for many in range(1, most + 1):
        further = {}
        for good, chance in one_more(going, yes).items():
            here = odds(yes, other, many, good)
            if not is_less(ends[0], here):
                ended[0] = plus(ended[0], chance)
            elif not is_less(here, ends[1]):
                ended[1] = plus(ended[1], chance)
            else:
                further[good] = chance
        going = further
    return ended[0], ended[1], total(list(going.values()))


def one_more(going, yes):
    """Return a table of counts of yeses to chances one try on, each yes by a chance."""
    found = {}
    for good, chance in going.items():
        found[good] = plus(found.get(good, NOUGHT), times(chance, minus(ONE, yes)))
        found[good + 1] = times(chance, yes)
    return found


def odds(first, second, many, good):
    """Return how much likelier good yeses of so many are by the second chance than by the first."""
    return over(row_of(second, many, good), row_of(first, many, good))


def next_yes(many, good):
    """Return the chance of a yes behind good yeses of so many when all chances of yes were alike; BadSize."""
    if not 0 <= good <= many:
        raise BadSize("more yeses than tries, or fewer than none")
    return part(good + 1, many + 2)


def two_machines(seen, left):
    """Return (greatest mean of yeses in the tries left, machine to try first) by (good, bad) seen of two; BadSize."""
    if left < 0 or min([*seen[0], *seen[1]]) < 0:
        raise BadSize("fewer tries left, or seen, than none")
    return best_of({}, seen, left)


def best_of(table, seen, left):
    """Return two_machines' answer, kept in a table."""
    if left < 1:
        return NOUGHT, 0
    key = (tuple(seen[0]), tuple(seen[1]), left)
    if key not in table:
        worths = [mean_by(table, seen, left, machine) for machine in (0, 1)]
        first = max_place(worths)
        table[key] = (worths[first], first)
    return table[key]


def mean_by(table, seen, left, machine):
    """Return the greatest mean of yeses in the tries left when a machine is tried first."""
    good, bad = seen[machine]
    yes = next_yes(good + bad, good)
    pair = [tuple(one) for one in seen]
    pair[machine] = (good + 1, bad)
    with_yes = plus(ONE, best_of(table, tuple(pair), left - 1)[0])
    pair[machine] = (good, bad + 1)
    with_no = best_of(table, tuple(pair), left - 1)[0]
    return plus(times(yes, with_yes), times(minus(ONE, yes), with_no))
