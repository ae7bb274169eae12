"""Tests of luckwright.nets: point [12], and of point [21] a net's fields, held against adding and trying all values."""

import unittest
from fractions import Fraction
from itertools import combinations, product

from luckwright.errors import BadPart, BadTree, NoChance, NoSuch
from luckwright.nets import Net, depends, joined, summed_out

O, I, H, T, T2 = (0, 1), (1, 1), (1, 2), (1, 3), (2, 3)
COIN = {(): (H, H)}
BIT = {(): ((1, 4), (3, 4))}
THREE = {(): (T, O, T2)}
BY_ONE = {(0,): (T, T2), (1,): ((3, 4), (1, 4))}
BY_TWO = {(0, 0): (I, O), (0, 1): (T, T2), (1, 0): (H, H), (1, 1): ((1, 5), (4, 5))}
BY_THREE = {(0,): (H, H), (1,): (O, I), (2,): (T, T2)}
COPIED = {(0,): (I, O), (1,): (O, I)}
EITHER = {(0, 0): (I, O), (0, 1): (O, I), (1, 0): (O, I), (1, 1): (O, I)}
NETS = {
    "one": [("a", (), THREE)],
    "alone": [("a", (), COIN), ("b", (), BIT), ("c", (), THREE)],
    "chain": [("a", (), BIT), ("b", ("a",), BY_ONE), ("c", ("b",), BY_ONE), ("d", ["c"], BY_ONE)],
    "fork": [("b", (), BIT), ("a", ("b",), BY_ONE), ("c", ("b",), {(0,): (T, T, T), (1,): (H, O, H)})],
    "child": [("b", (), COIN), ("a", [], BIT), ("c", ("a", "b"), BY_TWO), ("d", ("c",), BY_ONE)],
    "round": [("a", (), BIT), ("b", ("a",), BY_ONE), ("c", ("a",), COPIED), ("d", ("b", "c"), BY_TWO)],
    "sure": [("a", (), {(): (I, O)}), ("b", ("a",), COPIED), ("c", ("b", "a"), EITHER)],
    "wide": [("a", (), THREE), ("b", ("a",), BY_THREE), ("c", (), COIN), ("d", ("c", "b"), EITHER)],
    "alike": [("a", (), COIN), ("b", (), COIN), ("c", (), {(): (T, T, T)})],
}


def small(value):
    """Return a Fraction as a part."""
    return Fraction(value).numerator, Fraction(value).denominator


def sizes_of(rows):
    """Return a table of names to how many values."""
    return {name: len(next(iter(table.values()))) for name, parents, table in rows}


def all_cases(rows):
    """Return (values by names, chance) of all values of a net's names, in order."""
    sizes = sizes_of(rows)
    found = []
    for values in product(*[range(size) for size in sizes.values()]):
        case = dict(zip(sizes, values))
        chance = Fraction(1)
        for name, parents, table in rows:
            chance *= Fraction(*table[tuple(case[parent] for parent in parents)][case[name]])
        found.append((case, chance))
    return found


def fits(case, seen):
    """Tell whether a case has the values seen."""
    return all(case[name] == value for name, value in seen.items())


def all_seen(rows):
    """Return all tables of values seen, of up to all names."""
    sizes = sizes_of(rows)
    found = []
    for count in range(len(sizes) + 1):
        for names in combinations(sizes, count):
            found.extend(dict(zip(names, values)) for values in product(*[range(sizes[name]) for name in names]))
    return found


def parents_of(rows):
    """Return a table of names to the names that they hang on."""
    return {name: tuple(parents) for name, parents, table in rows}


def come_from(rows, name):
    """Return the names of which a name is one that hangs on it, near or far, and itself."""
    parents = parents_of(rows)
    found = {name}
    for one, above in parents.items():
        if set(above) & found:
            found.add(one)
    return found


def open_ways(rows, one, other):
    """Return all ways between two names, along what hangs on what, each name once."""
    parents = parents_of(rows)
    near = {name: {there for there in parents if there in parents[name] or name in parents[there]} for name in parents}
    ways, found = [(one,)], []
    while ways:
        way = ways.pop()
        if way[-1] == other:
            found.append(way)
        else:
            ways.extend((*way, there) for there in near[way[-1]] if there not in way)
    return found


def is_open(rows, way, seen):
    """Tell whether a way leads on past each name within: past one that both sides lead to where it, or one that comes
    of it, is seen; past any other where it isn't."""
    parents = parents_of(rows)
    for before, here, behind in zip(way, way[1:], way[2:]):
        if before in parents[here] and behind in parents[here]:
            if not come_from(rows, here) & set(seen):
                return False
        elif here in seen:
            return False
    return True


def all_pairs(rows):
    """Return (one, other, names seen) for all pairs and lots of names."""
    names = [row[0] for row in rows]
    return [(one, other, lot) for one, other in product(names, repeat=2)
            for count in range(len(names) + 1) for lot in combinations(names, count)]


class NetTest(unittest.TestCase):
    def test_fields(self):
        rows = [["a", [], {(): [(2, 4), (3, 6)]}], ("b", ["a"], {(1,): [(5, 5), (0, 3)], (0,): [T, T2]})]
        net = Net(rows)
        self.assertEqual(net.rows, (("a", (), {(): (H, H)}), ("b", ("a",), {(0,): (T, T2), (1,): (I, O)})))
        self.assertEqual(net.many, {"a": 2, "b": 2})
        self.assertIs(type(net.rows), tuple)
        self.assertEqual({type(row) for row in net.rows}, {tuple})
        self.assertEqual({type(row[1]) for row in net.rows}, {tuple})
        self.assertEqual({type(row) for row in net.rows[1][2].values()}, {tuple})
        self.assertIs(type(net.many), dict)

    def test_rows_handed_in_are_neither_changed_nor_kept(self):
        table, parents = {(0,): [T, T2], (1,): [I, O]}, ["a"]
        rows = [("a", [], {(): [H, H]}), ("b", parents, table)]
        net = Net(rows)
        self.assertEqual(rows, [("a", [], {(): [H, H]}), ("b", ["a"], {(0,): [T, T2], (1,): [I, O]})])
        table.clear()
        parents.clear()
        rows.clear()
        self.assertEqual(net.rows[1], ("b", ("a",), {(0,): (T, T2), (1,): (I, O)}))

    def test_names_parents_and_above(self):
        for rows in NETS.values():
            net, parents = Net(rows), parents_of(rows)
            self.assertEqual(net.names(), tuple(parents))
            self.assertEqual(net.many, sizes_of(rows))
            for name in parents:
                self.assertEqual(net.parents(name), parents[name])
                found = net.above(name)
                self.assertIs(type(found), tuple)
                self.assertEqual(sorted(found), sorted(one for one in parents if name in come_from(rows, one)))
            for name in ("z", "", "A"):
                self.assertRaises(NoSuch, net.parents, name)
                self.assertRaises(NoSuch, net.above, name)
        self.assertEqual(Net([]).names(), ())
        self.assertEqual(Net(NETS["child"]).parents("c"), ("a", "b"))

    def test_chance(self):
        for rows in NETS.values():
            net = Net(rows)
            for case, chance in all_cases(rows):
                self.assertEqual(net.chance(case), small(chance))
                for name in case:
                    self.assertRaises(NoSuch, net.chance, {one: case[one] for one in case if one != name})
                    for value in (-1, net.many[name], 9):
                        self.assertRaises(NoSuch, net.chance, {**case, name: value})

    def test_with_seen_and_given(self):
        for rows in NETS.values():
            net, cases = Net(rows), all_cases(rows)
            for name, seen in product(net.names(), all_seen(rows)):
                parts = [sum(chance for case, chance in cases if case[name] == value and fits(case, seen))
                         for value in range(net.many[name])]
                found = net.with_seen(name, seen)
                self.assertIs(type(found), tuple)
                self.assertEqual(found, tuple(small(part) for part in parts))
                if sum(parts) == 0:
                    self.assertRaises(NoChance, net.given, name, seen)
                else:
                    self.assertIs(type(net.given(name, seen)), tuple)
                    self.assertEqual(net.given(name, seen), tuple(small(part / sum(parts)) for part in parts))

    def test_likeliest(self):
        for rows in NETS.values():
            net, cases = Net(rows), all_cases(rows)
            for seen in all_seen(rows):
                fitting = [(tuple(case.values()), chance) for case, chance in cases if fits(case, seen)]
                most = max(chance for values, chance in fitting)
                least = min(values for values, chance in fitting if chance == most)
                found = net.likeliest(seen)
                self.assertEqual(found, (small(most), least))
                self.assertEqual([type(found), type(found[1])], [tuple, tuple])
        self.assertEqual(Net(NETS["alike"]).likeliest({}), ((1, 12), (0, 0, 0)))
        self.assertEqual(Net(NETS["alike"]).likeliest({"b": 1}), ((1, 12), (0, 1, 0)))
        self.assertEqual(Net(NETS["sure"]).likeliest({"a": 1}), (O, (1, 0, 0)))
        self.assertEqual(Net([]).likeliest({}), (I, ()))

    def test_names_and_values_that_are_not_there(self):
        net = Net(NETS["child"])
        for seen in ({"z": 0}, {"a": 2}, {"a": -1}, {"b": 0, "": 1}, {"c": 0, "d": 7}):
            self.assertRaises(NoSuch, net.with_seen, "a", seen)
            self.assertRaises(NoSuch, net.given, "a", seen)
            self.assertRaises(NoSuch, net.likeliest, seen)
            self.assertRaises(NoSuch, net.factors, seen)
            self.assertRaises(NoSuch, depends, net, "a", "b", seen)
            self.assertRaises(NoSuch, depends, net, "a", "c", seen)
        for ask in (net.with_seen, net.given):
            self.assertRaises(NoSuch, ask, "z", {})
            self.assertRaises(NoSuch, ask, "", {"a": 0})
        for one, other, seen in (("z", "a", []), ("a", "z", []), ("a", "b", ["z"]), ("z", "z", ["z"]),
                                 ("a", "z", ["a"]), ("z", "a", ("a",))):
            self.assertRaises(NoSuch, net.apart, one, other, seen)
            self.assertRaises(NoSuch, depends, net, one, other, {name: 0 for name in seen})

    def test_what_is_seen_is_not_changed(self):
        net, seen = Net(NETS["round"]), {"d": 1}
        net.given("a", seen)
        net.likeliest(seen)
        net.factors(seen).clear()
        depends(net, "a", "b", seen)
        self.assertEqual(seen, {"d": 1})
        self.assertEqual(net.rows, Net(NETS["round"]).rows)


class RefusedTest(unittest.TestCase):
    def test_names_out_of_order(self):
        for rows in ([("a", (), COIN), ("a", (), COIN)], [("b", ("a",), BY_ONE), ("a", (), COIN)],
                     [("a", ("a",), BY_ONE)], [("a", (), COIN), ("b", ("z",), BY_ONE)],
                     [("a", (), COIN), ("b", (), COIN), ("a", ("b",), BY_ONE)]):
            self.assertRaises(BadTree, Net, rows)

    def test_rows_that_are_missing_or_too_many(self):
        for table in ({}, {(0,): (H, H)}, {(): (H, H)}, {(0,): (H, H), (2,): (H, H)},
                      {(0,): (H, H), (1,): (H, H), (2,): (H, H)}, {(0, 0): (H, H), (1, 0): (H, H)}):
            self.assertRaises(BadTree, Net, [("a", (), COIN), ("b", ("a",), table)])
        self.assertRaises(BadTree, Net, [("a", (), {})])
        self.assertRaises(BadTree, Net, [("a", (), {(0,): (H, H)})])
        self.assertRaises(BadTree, Net, [("a", (), THREE), ("b", ("a",), BY_ONE)])

    def test_unlike_and_bare_rows(self):
        self.assertRaises(BadTree, Net, [("a", (), {(): ()})])
        for table in ({(0,): (H, H), (1,): (I,)}, {(0,): (T, T, T), (1,): (H, H)}, {(0,): (), (1,): ()},
                      {(0,): (H, H), (1,): ()}):
            self.assertRaises(BadTree, Net, [("a", (), COIN), ("b", ("a",), table)])

    def test_chances_that_are_not_one_in_all(self):
        for row in ((H, T), (O, O), (H, H, H), (I, I), (T,)):
            self.assertRaises(BadTree, Net, [("a", (), {(): row})])
        self.assertRaises(BadTree, Net, [("a", (), COIN), ("b", ("a",), {(0,): (H, H), (1,): (H, T)})])
        for row in (((3, 2), (-1, 2)), ((-1, 2), (3, 2)), ((1, 0), I)):
            self.assertRaises(BadPart, Net, [("a", (), {(): row})])


class ApartTest(unittest.TestCase):
    def test_apart_by_trying_all_ways(self):
        for rows in NETS.values():
            net = Net(rows)
            for one, other, seen in all_pairs(rows):
                told = one in seen or other in seen or not any(is_open(rows, way, seen)
                                                               for way in open_ways(rows, one, other))
                self.assertIs(net.apart(one, other, seen), told)
                self.assertIs(net.apart(other, one, list(seen)), told)

    def test_apart_examples(self):
        chain, fork, child = Net(NETS["chain"]), Net(NETS["fork"]), Net(NETS["child"])
        self.assertIs(chain.apart("a", "d", []), False)
        self.assertIs(chain.apart("a", "d", ["b"]), True)
        self.assertIs(fork.apart("a", "c", []), False)
        self.assertIs(fork.apart("a", "c", ["b"]), True)
        self.assertIs(child.apart("a", "b", []), True)
        self.assertIs(child.apart("a", "b", ["c"]), False)
        self.assertIs(child.apart("a", "b", ["d"]), False)
        self.assertIs(child.apart("a", "a", []), False)
        self.assertIs(child.apart("a", "a", ["a"]), True)
        self.assertIs(child.apart("c", "d", ("d",)), True)

    def test_depends_by_trying_all(self):
        for rows in NETS.values():
            net, cases = Net(rows), all_cases(rows)
            for seen in all_seen(rows):
                for one, other in product(net.names(), repeat=2):
                    found = []
                    for value in range(net.many[other]):
                        parts = [sum(chance for case, chance in cases
                                     if fits(case, seen) and case[other] == value and case[one] == at)
                                 for at in range(net.many[one])]
                        if sum(parts) > 0:
                            found.append([part / sum(parts) for part in parts])
                    told = depends(net, one, other, seen)
                    self.assertIs(told, any(row != found[0] for row in found))
                    # What is apart never depends.
                    self.assertFalse(told and net.apart(one, other, list(seen)))

    def test_depends_examples(self):
        child = Net(NETS["child"])
        self.assertIs(depends(child, "a", "b", {}), False)
        self.assertIs(depends(child, "a", "b", {"c": 1}), True)
        self.assertIs(depends(child, "a", "a", {}), True)
        self.assertIs(depends(child, "a", "c", {"c": 1}), False)
        self.assertIs(depends(Net(NETS["sure"]), "a", "a", {}), False)


class FactorsTest(unittest.TestCase):
    def test_factors(self):
        self.assertEqual(Net(NETS["wide"]).factors({"b": 1}), [
            (("a",), {(0,): T, (1,): O, (2,): T2}),
            (("a", "b"), {(0, 1): H, (1, 1): I, (2, 1): T2}),
            (("c",), {(0,): H, (1,): H}),
            (("c", "b", "d"), {(0, 1, 0): O, (0, 1, 1): I, (1, 1, 0): O, (1, 1, 1): I})])
        self.assertEqual(Net([]).factors({}), [])

    def test_factors_are_the_rows_where_seen_ones_have_their_values(self):
        for rows in NETS.values():
            net = Net(rows)
            for seen in all_seen(rows):
                found = net.factors(seen)
                self.assertIs(type(found), list)
                self.assertEqual([names[-1] for names, table in found], list(net.names()))
                for (name, parents, table), (names, parts) in zip(rows, found):
                    self.assertEqual(names, (*parents, name))
                    keys = [key for key in product(*[range(net.many[one]) for one in names])
                            if all(seen.get(one, value) == value for one, value in zip(names, key))]
                    self.assertEqual(parts, {key: small(Fraction(*table[key[:-1]][key[-1]])) for key in keys})

    def test_joined(self):
        for rows in NETS.values():
            net, cases = Net(rows), all_cases(rows)
            for seen in all_seen(rows)[::3]:
                names, table = joined(net.factors(seen))
                self.assertIs(type(names), tuple)
                self.assertEqual(sorted(names), sorted(net.names()))
                self.assertEqual(table, {tuple(case[name] for name in names): small(chance)
                                         for case, chance in cases if fits(case, seen)})

    def test_joined_examples(self):
        one = (("b", "a"), {(0, 0): H, (0, 1): T, (1, 0): O, (1, 1): I})
        other = (("c", "a"), {(5, 0): (3, 1), (5, 1): (-1, 2)})
        self.assertEqual(joined([one, other]), (("b", "a", "c"), {(0, 0, 5): (3, 2), (0, 1, 5): (-1, 6),
                                                                  (1, 0, 5): O, (1, 1, 5): (-1, 2)}))
        self.assertEqual(joined([other, one])[0], ("c", "a", "b"))
        self.assertEqual(joined([one]), one)
        self.assertEqual(joined([]), ((), {(): I}))
        self.assertEqual(joined([(("a",), {(0,): H}), (("a",), {(1,): H})]), (("a",), {}))

    def test_summed_out(self):
        factor = (("b", "a"), {(0, 0): H, (0, 1): T, (1, 0): O, (1, 1): (1, 4)})
        self.assertEqual(summed_out(factor, "a"), (("b",), {(0,): (5, 6), (1,): (1, 4)}))
        self.assertEqual(summed_out(factor, "b"), (("a",), {(0,): H, (1,): (7, 12)}))
        self.assertEqual(summed_out(summed_out(factor, "a"), "b"), ((), {(): (13, 12)}))
        self.assertEqual(factor[1], {(0, 0): H, (0, 1): T, (1, 0): O, (1, 1): (1, 4)})
        self.assertIs(type(summed_out(factor, "a")), tuple)

    def test_a_name_that_another_hangs_on_twice(self):
        net = Net([("a", (), BIT), ("b", ("a", "a"), BY_TWO)])
        self.assertEqual(net.with_seen("b", {}), ((2, 5), (3, 5)))
        self.assertEqual(net.with_seen("a", {"b": 1}), (O, (3, 5)))
        self.assertIs(depends(net, "a", "b", {}), True)

    def test_long_chains(self):
        rows = [(f"n{place}", (f"n{place - 1}",) if place else (), BY_ONE if place else COIN) for place in range(60)]
        net = Net(rows)
        self.assertEqual(sum(Fraction(*chance) for chance in net.given("n59", {"n0": 1})), 1)
        self.assertEqual(net.given("n0", {}), (H, H))
        self.assertIs(net.apart("n0", "n59", ["n30"]), True)
