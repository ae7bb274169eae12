"""Nets: things that hang on others by tables of chances, asked by putting together and summing out."""

from luckwright.errors import BadTree, NoChance, NoSuch
from luckwright.parts import NOUGHT, ONE, check_chance, is_less, over, plus, times, total


class Net:
    """Rows (name, names it hangs on, table of their values to the chances of its own), in order, parents first."""

    def __init__(self, rows):
        self.many = {}
        found = []
        for name, parents, table in rows:
            if name in self.many or any([parent not in self.many for parent in parents]):
                raise BadTree("a name that stands twice, or ahead of one that it hangs on")
            keys = all_values([self.many[parent] for parent in parents])
            found.append((name, tuple(parents), checked_table(table, keys)))
            self.many[name] = len(table[keys[0]])
        self.rows = tuple(found)

    def names(self):
        """Return the names, as they stand."""
        return tuple([row[0] for row in self.rows])

    def parents(self, name):
        """Return a tuple of the names that a name hangs on, as its row tells them; NoSuch."""
        for one, parents, _ in self.rows:
            if one == name:
                return parents
        raise NoSuch("no such name")

    def chance(self, values):
        """Return the chance of a table of all names to values; NoSuch."""
        found = ONE
        for name, parents, table in self.rows:
            if name not in values or not 0 <= values[name] < self.many[name]:
                raise NoSuch("a name without a value, or with one that isn't there")
            found = times(found, table[tuple([values[parent] for parent in parents])][values[name]])
        return found

    def check_seen(self, seen):
        """Refuse with NoSuch names or values seen that aren't there."""
        for name, value in seen.items():
            if name not in self.many or not 0 <= value < self.many[name]:
                raise NoSuch("a name or a value seen that isn't there")

    def factors(self, seen):
        """Return (names, table of their values to parts, noughts too) for each name, seen ones at their values; NoSuch.
        """
        self.check_seen(seen)
        found = []
        for name, parents, table in self.rows:
            names = (*parents, name)
            rows = {(*key, value): chance for key, row in table.items() for value, chance in enumerate(row)}
            found.append((names, {key: chance for key, chance in rows.items() if is_as_seen(names, key, seen)}))
        return found

    def with_seen(self, name, seen):
        """Return the chances that a name has each value and the seen ones theirs, others summed out; NoSuch."""
        if name not in self.many:
            raise NoSuch("no such name")
        left = self.factors(seen)
        # From the last name back: what hangs on nothing seen sums up to one, and tables stay small.
        for other in [one for one in self.names()[::-1] if one != name]:
            hanging = joined([factor for factor in left if other in factor[0]])
            left = [factor for factor in left if other not in factor[0]] + [summed_out(hanging, other)]
        table = joined(left)[1]
        return tuple([table.get((value,), NOUGHT) for value in range(self.many[name])])

    def given(self, name, seen):
        """Return the chances of a name's values where others are seen; NoChance where they never are, NoSuch."""
        chances = self.with_seen(name, seen)
        whole = total(chances)
        if whole[0] == 0:
            raise NoChance("what is seen never is")
        return tuple([over(chance, whole) for chance in chances])

    def likeliest(self, seen):
        """Return (chance, values in the names' order) of the likeliest with those seen, the least of alike ones."""
        self.check_seen(seen)
        best = None
        left = [(ONE, ())]
        while len(left) > 0:
            chance, values = left.pop()
            if best is not None and not is_less(best[0], chance):
                # Further values make a chance no greater, and those that are gone through ahead are the lesser ones.
                continue
            if len(values) == len(self.rows):
                best = (chance, values)
            else:
                left.extend(self.gone_on(chance, values, seen)[::-1])
        return best

    def gone_on(self, chance, values, seen):
        """Return (chance, values) of the first names with each value of the next one that is not unlike those seen."""
        name, parents, table = self.rows[len(values)]
        known = dict(zip(self.names(), values))
        row = table[tuple([known[parent] for parent in parents])]
        return [(times(chance, one), (*values, value)) for value, one in enumerate(row)
                if seen.get(name, value) == value]

    def apart(self, one, other, seen):
        """Tell whether no way leads between two names but through those seen, one of them seen too; NoSuch."""
        among = {name: True for start in (one, other, *seen) for name in self.above(start)}
        families = [(*self.parents(name), name) for name in among]
        if one in seen or other in seen:
            return True
        found = {one: True}
        left = [one]
        while len(left) > 0:
            here = left.pop()
            for near in [name for family in families if here in family for name in family]:
                if near not in found and near not in seen:
                    found[near] = True
                    left.append(near)
        return other not in found

    def above(self, name):
        """Return a name and all it hangs on, near or far."""
        found = [name]
        at = 0
        while at < len(found):
            here = found[at]
            for parent in self.parents(here):
                if parent not in found:
                    found.append(parent)
            at = at + 1
        return tuple(found)


def all_values(sizes):
    """Return a list of all rows of values, each below its size, in order."""
    found = [()]
    for size in sizes:
        found = [(*row, value) for row in found for value in range(size)]
    return found


def checked_table(table, keys):
    """Return a table's rows of chances, in the order of its keys, made small; BadTree."""
    if len(table) != len(keys) or any([key not in table for key in keys]):
        raise BadTree("not a row for each row of values of the names ahead")
    long = len(table[keys[0]])
    if long == 0 or any([len(table[key]) != long for key in keys]):
        raise BadTree("bare rows, or rows that are not alike long")
    found = {key: tuple([check_chance(one) for one in table[key]]) for key in keys}
    if any([total(row) != ONE for row in found.values()]):
        raise BadTree("a row of chances that is not one in all")
    return found


def is_as_seen(names, values, seen):
    """Tell whether all seen ones of some names have the values seen."""
    return all([seen.get(name, value) == value for name, value in zip(names, values)])


def joined(factors):
    """Return the product of factors: (names, table), names in order of their first coming."""
    names, table = (), {(): ONE}
    for further, rows in factors:
        names, table = both_joined(names, table, further, rows)
    return names, table


def both_joined(names, table, further, rows):
    """Return (names, table) of the product of two factors."""
    known = [name for name in names if name in further]
    new = list({name: True for name in further if name not in names})
    fitting = {}
    for key, chance in rows.items():
        values = dict(zip(further, key))
        # A name may stand twice among those that another hangs on: it has one value.
        if is_as_seen(further, key, values):
            here = tuple([values[name] for name in known])
            fitting.setdefault(here, []).append((tuple([values[name] for name in new]), chance))
    found = {}
    for key, chance in table.items():
        values = dict(zip(names, key))
        for rest, other in fitting.get(tuple([values[name] for name in known]), []):
            row = (*key, *rest)
            found[row] = times(chance, other)
    return (*names, *new), found


def summed_out(factor, name):
    """Return a factor without a name: its values' parts added."""
    names, table = factor
    places = [place for place, one in enumerate(names) if one != name]
    found = {}
    for key, chance in table.items():
        left = tuple([key[place] for place in places])
        found[left] = plus(found.get(left, NOUGHT), chance)
    return tuple([names[place] for place in places]), found


def depends(net, one, other, seen):
    """Tell whether a name's chances, others seen, change with another's value, by trying all; NoSuch."""
    net.parents(other)
    # A seen name has no other value than the seen one to change to.
    values = [seen[other]] if other in seen else list(range(net.many[other]))
    rows = [net.with_seen(one, {**seen, other: value}) for value in values]
    tried = [(row, total(row)) for row in rows if total(row) != NOUGHT]
    found = [[over(chance, whole) for chance in row] for row, whole in tried]
    return any([row != found[0] for row in found])
