"""Tests over the whole program: what one file tells another tells in its own way, and what is refused changes nothing."""

import unittest
from fractions import Fraction
from itertools import permutations, product
from math import factorial

from luckwright import (beliefs, bounds, counts, couples, cups, desks, dice, errors, hidden, lines, nets, orders, parts,
                        plans, queues, samples, spreads, sums, trees, trials, urns, walks)

O, I, H, T, T2, Q, Q3 = (0, 1), (1, 1), (1, 2), (1, 3), (2, 3), (1, 4), (3, 4)
CHANCES = (O, Q, H, T2, I)
SPREADS = (spreads.sure(2), spreads.even([1, 4]), spreads.Spread({-1: 2, 0: 1, 3: 1}), dice.die(4))
HIDDEN = (hidden.Hidden([(3, 5), (2, 5)], [[(7, 10), (3, 10)], [(2, 5), (3, 5)]], [[H, H], [(1, 10), (9, 10)]], "ab"),
          hidden.Hidden([I, O], [[H, H], [O, I]], [[H, H, O], [O, H, H]], "xyz"),
          hidden.Hidden([T, T, T], [[T, T, T], [H, Q, Q], [O, H, H]], [[H, H], [Q, Q3], [I, O]], "ab"))


def small(value):
    """Return a Fraction as a part."""
    return Fraction(value).numerator, Fraction(value).denominator


def end(value):
    """Return a tree that ends with a value."""
    return "end", small(value)


def race_tree(chance, mine, theirs):
    """Return a race as a tree of luck."""
    if mine == 0 or theirs == 0:
        return end(int(mine == 0))
    return "luck", ((chance, race_tree(chance, mine - 1, theirs)),
                    (parts.other_way(chance), race_tree(chance, mine, theirs - 1)))


def taking_tree(spread, steps):
    """Return draws that are taken or let go as a tree of luck and choices."""
    rows = []
    for value in spread.numbers():
        one = end(value)
        if steps > 1:
            one = ("choose", (one, taking_tree(spread, steps - 1)))
        rows.append((spread.chance(value), one))
    return "luck", tuple(rows)


def plan_tree(places, later, place, count, paid, share):
    """Return what is paid in so many steps, step by step, as a tree of choices and luck."""
    if count == 0:
        return end(paid)
    return "choose", tuple(
        ("luck", tuple((chance, plan_tree(places, later, other, count - 1, paid + share * Fraction(*pay), share * later))
                       for other, chance in enumerate(row))) for pay, row in places[place])


def stakes_tree(chance, have, goal, rounds):
    """Return stakes up to a goal as a tree of choices and luck."""
    if rounds == 0 or have in (0, goal):
        return end(int(have == goal))
    return "choose", tuple(("luck", ((chance, stakes_tree(chance, have + stake, goal, rounds - 1)),
                                     (parts.other_way(chance), stakes_tree(chance, have - stake, goal, rounds - 1))))
                           for stake in range(1, min(have, goal - have) + 1))


def machines_tree(seen, left, won):
    """Return tries of two machines as a tree of choices and luck."""
    if left == 0:
        return end(won)
    ways = []
    for machine in (0, 1):
        good, bad = seen[machine]
        yes = small(Fraction(good + 1, good + bad + 2))
        rows = [list(seen), list(seen)]
        rows[0][machine], rows[1][machine] = (good + 1, bad), (good, bad + 1)
        ways.append(("luck", ((yes, machines_tree(rows[0], left - 1, won + 1)),
                              (parts.other_way(yes), machines_tree(rows[1], left - 1, won)))))
    return "choose", tuple(ways)


class TreesTest(unittest.TestCase):
    def check(self, tree, worth):
        self.assertEqual(trees.worth(tree), worth)
        steps = trees.plan(tree)
        self.assertEqual(trees.worth_by(tree, steps), worth)
        self.assertEqual(trees.check_plan(tree, steps, trees.values_of(tree)), worth)

    def test_races(self):
        for chance, mine, theirs in product(CHANCES, range(4), range(4)):
            if mine + theirs > 0:
                tree = race_tree(chance, mine, theirs)
                self.check(tree, cups.race(chance, mine, theirs))
                self.assertEqual(trees.chance_of(tree, trees.plan(tree), lambda one: one == I),
                                 cups.fair_share(chance, mine, theirs)[0])

    def test_takings(self):
        for spread, steps in product(SPREADS, range(1, 4)):
            tree = taking_tree(spread, steps)
            self.check(tree, plans.stop_values(spread, steps)[-1])

    def test_plans_for_steps(self):
        tables = ([[(I, [I]), ((3, 2), [I])]], [[(O, [H, H]), (H, [I, O])], [((2, 1), [I, O]), ((-1, 3), [O, I])]])
        for places, later, count in product(tables, (O, H, Q3), range(4)):
            worths, numbers = plans.Plans(places, later).for_steps(count)
            for place in range(len(places)):
                tree = plan_tree(places, Fraction(*later), place, count, Fraction(0), Fraction(1))
                self.check(tree, worths[place])
                if count > 0:
                    self.assertEqual(trees.plan(tree)[0], numbers[place])

    def test_stakes_and_machines(self):
        for chance, goal, rounds in product((T, H, T2), range(1, 5), range(4)):
            for have, most in enumerate(plans.stakes(chance, goal, rounds)):
                tree = stakes_tree(chance, have, goal, rounds)
                self.check(tree, most)
                self.assertEqual(trees.surest(tree, lambda one: one == I), most)
        for left, good, bad in product(range(4), range(2), range(2)):
            seen = ((good, bad), (1, 0))
            tree = machines_tree(seen, left, 0)
            worth, first = beliefs.two_machines(seen, left)
            self.check(tree, worth)
            if left > 0:
                self.assertEqual(trees.plan(tree)[0], first)

    def test_no_plan_tried_is_worth_more(self):
        for tree in (taking_tree(SPREADS[1], 3), stakes_tree(T, 2, 4, 2), machines_tree(((0, 0), (1, 0)), 2, 0)):
            worth = trees.worth(tree)
            for steps in trees.all_plans(tree):
                self.assertFalse(parts.is_less(worth, trees.worth_by(tree, steps)))


def as_net(walk, long):
    """Return a hidden walk as a net of places and signs."""
    rows = []
    for number in range(long):
        first = {(): walk.first} if number == 0 else {(place,): row for place, row in enumerate(walk.rows)}
        rows.append((f"p{number}", () if number == 0 else (f"p{number - 1}",), first))
        rows.append((f"s{number}", (f"p{number}",), {(place,): row for place, row in enumerate(walk.signs)}))
    return nets.Net(rows)


class HiddenTest(unittest.TestCase):
    def test_told_as_a_net(self):
        for walk, long in product(HIDDEN, range(1, 4)):
            net = as_net(walk, long)
            for word in product(walk.letters, repeat=long):
                seen = {f"s{number}": walk.letters.index(letter) for number, letter in enumerate(word)}
                self.assertEqual(parts.total(net.with_seen("p0", seen)), walk.chance(word))
                if walk.chance(word) == O:
                    self.assertRaises(errors.NoChance, walk.places_by, word)
                    self.assertRaises(errors.NoChance, net.given, "p0", seen)
                    continue
                self.assertEqual(tuple(net.given(f"p{number}", seen) for number in range(long)), walk.places_by(word))
                self.assertEqual(net.likeliest(seen)[0], walk.way_chance(word, walk.likeliest(word)))

    def test_told_as_beliefs_changed_letter_by_letter(self):
        for walk in HIDDEN:
            places = range(walk.size())
            for word in product(walk.letters, repeat=3):
                here, chance = beliefs.Beliefs(list(enumerate(walk.first))), I
                for number, letter in enumerate(word):
                    signs = [walk.sign(place, letter) for place in places]
                    chance = parts.times(chance, here.before(signs))
                    self.assertEqual(chance, walk.chance(word[:number + 1]))
                    if chance == O:
                        self.assertRaises(errors.NoChance, here.seen, signs)
                        break
                    here = here.seen(signs)
                    self.assertEqual(tuple(row[1] for row in here.shown()), walk.places_by(word[:number + 1])[-1])
                    chances = [row[1] for row in here.shown()]
                    here = beliefs.Beliefs(list(enumerate(lines.step(chances, walk.rows))))

    def test_one_place_that_never_changes_is_beliefs(self):
        walk = hidden.Hidden([T, T2], [[I, O], [O, I]], [[Q3, Q], [T, T2]], "yn")
        held = beliefs.Beliefs([(0, T), (1, T2)])
        for many in range(1, 5):
            for good in range(many + 1):
                word = "y" * good + "n" * (many - good)
                self.assertEqual(tuple(row[1] for row in beliefs.after(held, [Q3, T], many, good).shown()),
                                 walk.places_by(word)[-1])
                self.assertEqual(bounds.turned(T, Q3, T), beliefs.after(held, [Q3, T], 1, 1).chance(0))


class CountingTest(unittest.TestCase):
    def test_sums_and_dice(self):
        words = {"a": "2d6", "b": "1d4-3", "c": "3d6b2", "d": "7"}
        due = dice.read("2d6+1d4-3+3d6b2+7").shown()
        for order in permutations(words):
            kept, desk = sums.Sum(), desks.Desk()
            for name in order:
                kept.put(name, dice.read(words[name]))
                desk.say(f"put {name} {words[name]}")
            kept.put("more", dice.die(8))
            kept.take("more")
            self.assertEqual([kept.spread.shown(), desk.sum.spread.shown()], [due, due])
            self.assertEqual(dice.pool([dice.read(words[name]) for name in order]).shown(), due)
        for many, sides in product(range(5), range(1, 5)):
            row = [spreads.sure(0)] + [dice.die(sides)] * many
            one = sums.Sum()
            for number in range(many):
                one.put(number, dice.die(sides))
            ways = [dice.rolls(many, sides), dice.kept(many, sides, many), dice.kept(many, sides, many, False),
                    dice.pool(row), spreads.added_often(dice.die(sides), many), one.spread,
                    dice.read(f"{many}d{sides}")]
            self.assertEqual([way.shown() for way in ways], [ways[0].shown()] * 7)
            for least in range(1, sides + 1):
                self.assertEqual(dice.hits(many, sides, least).shown(),
                                 sums.how_many([(sides - least + 1, sides)] * many).shown())
                self.assertEqual(dice.hits(many, sides, least).shown(),
                                 trials.yes_no(many, (sides - least + 1, sides)).shown())
        for many, sides in product(range(1, 4), range(1, 5)):
            top = spreads.sure(1)
            for _ in range(many):
                top = spreads.greatest(top, dice.die(sides))
            self.assertEqual(dice.kept(many, sides, 1).shown(), top.shown())

    def test_draws(self):
        for mine, others in product(range(1, 4), range(3)):
            for many in range(mine + others + 1):
                found = urns.kept_out([mine, others], 0, many)
                for few in range(many + 1):
                    rows = {row for row in permutations([0] * few + [1] * (many - few))}
                    due = parts.total([urns.row_chance([mine, others], row) for row in rows])
                    self.assertEqual(found.chance(few), due)
                # All lots of draws of the kind: so many of its own that are among those drawn.
                overlaps = [small(Fraction(counts.choose(mine, size) * counts.falling(many, size),
                                           counts.falling(mine + others, size))) for size in range(mine + 1)]
                self.assertEqual(sums.overlaps_of(found, mine), tuple(overlaps))
                self.assertEqual(sums.from_overlaps(overlaps), tuple(found.chance(count) for count in range(mine + 1)))

    def test_orders(self):
        for many in range(1, 6):
            rows = [samples.unranked(number, many) for number in range(factorial(many))]
            self.assertEqual(orders.rise_spread(many).shown(),
                             spreads.even([orders.longest_rise(row) for row in rows]).shown())
            overlaps = [small(Fraction(1, factorial(size))) for size in range(many + 1)]
            self.assertEqual(sums.from_overlaps(overlaps),
                             tuple(orders.at_home(many).chance(count) for count in range(many + 1)))
            chance = trials.order_chances(range(many), lambda row: samples.ranked(row) == 0)
            self.assertEqual(chance, small(Fraction(1, factorial(many))))
            figures = samples.counted(lambda drawn: samples.ranked(samples.shuffled(range(many), drawn)), 6, min(many, 4))
            self.assertEqual(figures.shown(), spreads.even(range(factorial(many))).shown())

    def test_races(self):
        for chance, wins in product(CHANCES, range(1, 5)):
            self.assertEqual(parts.total(list(cups.series(chance, wins).values())), I)
            # As if all games were played, who has as many wins as are needed has won.
            for theirs in range(1, 5):
                played = trials.yes_no(wins + theirs - 1, chance)
                self.assertEqual(cups.race(chance, wins, theirs), trials.at_least(played, wins))
            for games, share in cups.series(chance, wins).items():
                ahead = [cups.race(one, wins, games - wins + 1) for one in (chance, parts.other_way(chance))]
                before = [cups.race(one, wins, games - wins) if games > wins else O
                          for one in (chance, parts.other_way(chance))]
                self.assertEqual(share, parts.minus(parts.total(ahead), parts.total(before)))
        for chance in (T, H):
            table = [[None, chance], [parts.other_way(chance), None]]
            self.assertEqual(cups.knock_out(table, [1, 0]), cups.league(table))
            self.assertEqual(cups.league(table), cups.fair_share(chance, 1, 1))

    def test_words(self):
        for yes, many in product((T, H, Q3), range(5)):
            no = parts.other_way(yes)
            walk = hidden.Hidden([I], [[I]], [[yes, no]], "yn")
            spread = trials.yes_no(many, yes)
            for count in range(many + 1):
                words = [word for word in product("yn", repeat=many) if word.count("y") == count]
                self.assertEqual(parts.total([walk.chance(word) for word in words]), spread.chance(count))
                self.assertEqual(parts.times((len(words), 1), beliefs.row_of(yes, many, count)), spread.chance(count))

    def test_walks(self):
        rows = [[H, Q, Q], [T, T, T], [O, H, H]]
        walk = walks.Walk(rows)
        for place, count in product(range(3), range(4)):
            net = nets.Net([("n0", (), {(): walk.after(place, 0)})]
                           + [(f"n{at}", (f"n{at - 1}",), dict(zip([(0,), (1,), (2,)], rows)))
                              for at in range(1, count + 1)])
            self.assertEqual(net.given(f"n{count}", {}), walk.after(place, count))
        queue = queues.queue(T, H, 3)
        self.assertEqual(lines.step(queue.long_run(), queue.rows), queue.long_run())
        # Branches that have none or two go by tosses as one who is ruined or grows rich without an end.
        spread = spreads.Spread({0: 1, 2: 2})
        low, high = queues.ever_gone(spread, (1, 1000))
        for goal in (20, 30):
            ruined = parts.other_way(plans.ruin(T2, 1, goal))
            self.assertFalse(parts.is_less(ruined, low) and not parts.is_less(parts.minus(low, ruined), (1, 500)))
            self.assertFalse(parts.is_less(high, ruined))

    def test_shown_by_papers(self):
        for one, other in product(SPREADS, repeat=2):
            first, same, last = spreads.beats(one, other)
            self.assertEqual(parts.total([first, same, last]), I)
            rows = {(a, b): parts.times(one.chance(a), other.chance(b)) for a in one.numbers() for b in other.numbers()}
            self.assertEqual(couples.check_table(one, other, rows), parts.other_way(same))
            self.assertIs(couples.is_above(spreads.greatest(one, other), spreads.least(one, other)), True)
            self.assertEqual(spreads.taken_away(spreads.added(one, other), one).shown(), other.shown())
            self.assertEqual(samples.check_alias(one, samples.alias(one)), True)
            self.assertEqual(sums.shortfall(one, 3), parts.plus(
                parts.minus((3, 1), one.mean()), one.through(lambda value: max(0, value - 3)).mean()))


def deeds():
    """Return (things that may change, refused deeds with their own classes, what the things tell of themselves)."""
    kept, desk, figures = sums.Sum(), desks.Desk(), samples.Figures(6, [5, 0, 2])
    kept.put("a", dice.die(6))
    desk.say("put a 2d6")
    figures.take()
    held, walk, table = beliefs.Beliefs([("a", H), ("b", H)]), HIDDEN[0], {}
    ways = plans.Plans([[(I, [I])]], H)
    net = nets.Net([("n", (), {(): (I, O)})])
    rows = [
        (errors.NoSuch, lambda: kept.put("a", dice.die(4))), (errors.NoSuch, lambda: kept.take("b")),
        (errors.NoSuch, lambda: kept.needed("b", 3)), (errors.BadText, lambda: desk.do("")),
        (errors.BadText, lambda: desk.do("put b 1dx")), (errors.BadSize, lambda: desk.do("put b 1d0")),
        (errors.NoSuch, lambda: desk.do("put a 1d6")), (errors.NoSuch, lambda: desk.do("take z")),
        (errors.NoChance, lambda: desk.do("given least 13 2")), (errors.BadSize, lambda: figures.below(37)),
        (errors.BadSize, lambda: figures.below(0)), (errors.BadSize, lambda: samples.shuffled([1] * 9, figures)),
        (errors.BadSize, lambda: samples.by_weights(dice.rolls(9, 6), figures)),
        (errors.NoChance, lambda: held.seen([O, O])), (errors.BadSpread, lambda: held.seen([I])),
        (errors.BadPart, lambda: held.seen([I, (3, 2)])), (errors.BadSize, lambda: beliefs.after(held, [H, H], 1, 2)),
        (errors.NoChance, lambda: walk.places_by("?")), (errors.NoChance, lambda: walk.likeliest("a?")),
        (errors.BadTree, lambda: walk.way_chance("ab", [0])), (errors.BadTree, lambda: ways.for_steps(-1)),
        (errors.BadPaper, lambda: hidden.check_way(walk, "ab", (0, 1), ())), (errors.BadTree, lambda: ways.worth_by([1])),
        (errors.BadPaper, lambda: plans.check_best(ways, [0], [O])), (errors.BadTree, lambda: plans.ruin(I, 1, 2)),
        (errors.BadPaper, lambda: couples.check_table(dice.die(2), dice.die(3), {})),
        (errors.BadStore, lambda: desks.done_again("x\n")), (errors.BadTree, lambda: cups.league([[None, H]])),
        (errors.BadSize, lambda: cups.race(H, 0, 0)), (errors.BadSize, lambda: sums.from_overlaps([I, (2, 1)])),
        (errors.BadSize, lambda: beliefs.two_machines(((0, 0), (0, 0)), -1)), (errors.NoChance, lambda: net.given(
            "n", {"n": 1})), (errors.NoSuch, lambda: net.given("m", {})), (errors.BadPart, lambda: parts.part(1, 0)),
        (errors.NoChance, lambda: dice.die(6).given(lambda value: value > 6)),
        (errors.BadSpread, lambda: spreads.mixed([], [])), (errors.BadTree, lambda: walks.Walk([[H]])),
    ]
    return (kept, desk, figures, held, walk, ways, net, table), rows


def told_by(things):
    """Return all that things tell of themselves."""
    kept, desk, figures, held, walk, ways, net, table = things
    return (kept.names(), kept.spread.shown(), list(kept.rows), desk.text, desk.many, desk.sum.names(),
            desk.sum.spread.shown(), figures.base, figures.row, figures.place, held.shown(), walk.first, list(walk.rows),
            list(walk.signs), [list(choices) for choices in ways.places], ways.later, net.rows, dict(net.many), dict(table))


class RefusedTest(unittest.TestCase):
    def test_a_row_of_refused_deeds_in_any_order(self):
        things, rows = deeds()
        before = told_by(things)
        for by in range(1, len(rows)):
            for number in range(len(rows)):
                fault, deed = rows[(number * by + by) % len(rows)]
                with self.assertRaises(errors.ChanceFault) as caught:
                    deed()
                self.assertIs(type(caught.exception), fault)
            self.assertEqual(told_by(things), before)
        # Behind all that was refused, what may be done goes on as if nothing had been asked.
        self.assertEqual([things[2].below(6), things[1].say("put b 2d6"), things[2].take()], [0, "14", 2])

    def test_two_refused_deeds_one_behind_the_other(self):
        things, rows = deeds()
        before = told_by(things)
        for (first, one), (second, other) in product(rows, repeat=2):
            self.assertRaises(first, one)
            self.assertRaises(second, other)
        self.assertEqual(told_by(things), before)
