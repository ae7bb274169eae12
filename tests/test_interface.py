"""Tests that each name of the interface stands in its own file with its own arguments."""

import ast
import importlib
import inspect
import unittest
from pathlib import Path

PACKAGE = Path(__file__).resolve().parent.parent / "luckwright"

# Each def that the document's interface lists, a class's methods behind its name and a dot.
INTERFACE = {
    "errors": """ChanceFault BadPart BadSpread BadTree BadPaper BadSize BadText BadStore NoChance NoSuch""",
    "parts": """
        shared(one, other)
        part(top, low=1)
        plus(one, other)
        minus(one, other)
        times(one, other)
        over(one, other)
        is_less(one, other)
        lesser(one, other)
        greater(one, other)
        total(parts)
        product(parts)
        power(one, count)
        raised(number, count)
        check_chance(one)
        other_way(one)
        least_of(parts)
        greatest_of(parts)
        told(one)
    """,
    "counts": """
        check_count(many)
        factorial(many)
        choose(many, few)
        falling(many, few)
        split_ways(sizes)
        none_home(many)
        onto(many, few)
        lots(many, few)
        sums(many, few)
        parts_of(many, most)
        cycles(many, few)
        crossings(many)
        ahead_ways(yes, no)
    """,
    "spreads": """
        Spread.__init__(weights)
        Spread.numbers()
        Spread.chance(value)
        Spread.chance_of(test)
        Spread.up_to(value)
        Spread.mean()
        Spread.moment(count)
        Spread.scatter()
        Spread.middle()
        Spread.likeliest()
        Spread.given(test)
        Spread.through(change)
        Spread.shown()
        sure(value)
        even(values)
        together(one, other, change)
        added(one, other)
        added_often(one, many)
        greatest(one, other)
        least(one, other)
        mixed(spreads, weights)
        beats(one, other)
        taken_away(whole, one)
        from_chances(rows)
    """,
    "dice": """
        die(sides)
        rolls(many, sides)
        kept(many, sides, keep, best=True)
        laid(states, many, keep, side, last)
        ways(many, few)
        again(spread, test)
        bursting(sides, most)
        mixed_in(spread, side, more)
        hits(many, sides, least)
        read(text)
        term(word)
        number(word)
        pool(spreads)
    """,
    "trees": """
        check_tree(tree)
        worth(tree)
        plan(tree)
        worth_by(tree, steps)
        values_of(tree)
        inner_trees(tree)
        check_plan(tree, steps, paper)
        check_values(tree, paper)
        chance_of(tree, steps, test)
        surest(tree, test)
        all_plans(tree)
        news_worth(choices)
        size_of(tree)
    """,
    "lines": """
        solved(rows, values)
        by_row(row, values)
        check_rows(rows)
        step(start, rows)
    """,
    "walks": """
        Walk.__init__(rows)
        Walk.after(place, count)
        Walk.reached(place)
        Walk.rings()
        Walk.closed()
        Walk.period(place)
        Walk.long_run()
        Walk.ends_in(goals)
        Walk.steps_to(goals)
        Walk.is_fair_back()
        check_ends(walk, goals, chances)
        pooled(walk, lots)
        back(walk)
        visits(walk, place, count)
    """,
    "queues": """
        queue(comes, goes, room)
        lost(comes, goes, room)
        waiting(comes, goes, room)
        least_room(comes, goes, most, chance)
        children(spread, count)
        gone_by(spread, count)
        series_at(spread, chance)
        dies_out(spread)
        ever_gone(spread, width)
    """,
    "urns": """
        check_urn(counts)
        kept_out(counts, kind, many)
        put_back(counts, kind, many)
        with_more(counts, kind, many, more)
        row_chance(counts, row)
        first_of(counts, kind)
        all_kinds(many, draws)
        collected(many, have)
        unlike(many, draws)
        least_alike(many, chance)
        bare_lots(lots, balls)
        longest_run(many, run, yes)
    """,
    "trials": """
        yes_no(many, yes)
        at_least(spread, seen)
        at_most(spread, seen)
        as_unlikely(spread, seen)
        signs_test(pairs)
        sums_of(values, few)
        two_lots(one, other)
        ranks(values)
        rank_test(one, other)
        four_fields(a, b, c, d)
        runs(row)
        runs_spread(ones, others)
        lots_of(many, few)
        chance_bounds(many, seen, wrong, steps)
        held_down(chances, wrong)
        order_chances(values, test)
    """,
    "orders": """
        check_many(many)
        wrong_pairs(many)
        at_home(many)
        rings(many)
        tops(many)
        best_chance(many, skipped)
        best_skipped(many)
        longest_rise(row)
        rise_spread(many)
        same_ring(many)
        all_found(many, tries)
    """,
    "bounds": """
        both_bounds(one, other)
        either_bounds(one, other)
        table(one, other, both)
        check_both(one, other, rows)
        any_bounds(chances)
        all_bounds(chances)
        far_bound(mean, value)
        scatter_bound(scatter, far)
        one_side_bound(scatter, far)
        one_side_paper(scatter, far)
        where(both, one)
        turned(chance, yes, no)
        all_apart(rows)
    """,
    "nets": """
        Net.__init__(rows)
        Net.names()
        Net.parents(name)
        Net.chance(values)
        Net.factors(seen)
        Net.with_seen(name, seen)
        Net.given(name, seen)
        Net.likeliest(seen)
        Net.apart(one, other, seen)
        Net.above(name)
        joined(factors)
        summed_out(factor, name)
        depends(net, one, other, seen)
    """,
    "hidden": """
        Hidden.__init__(first, rows, signs, letters)
        Hidden.size()
        Hidden.sign(place, letter)
        Hidden.ahead(word)
        Hidden.behind(word)
        Hidden.chance(word)
        Hidden.places_by(word)
        Hidden.likeliest(word)
        Hidden.best_to(word)
        Hidden.way_chance(word, way)
        max_place(parts)
        check_way(hidden, word, way, table)
    """,
    "plans": """
        Plans.__init__(places, later)
        Plans.worth_of(place, number, values)
        Plans.for_steps(count)
        Plans.best_choice(place, values)
        Plans.worth_by(numbers)
        Plans.best()
        check_best(plans, numbers, values)
        stop_values(spread, steps)
        stakes(chance, goal, rounds)
        ruin(chance, have, goal)
    """,
    "couples": """
        chances_of(spread)
        apart(one, other)
        lot_apart(one, other)
        alike_table(one, other)
        filled(left, right)
        in_order_table(one, other)
        check_table(one, other, rows)
        without_nought(rows)
        is_above(one, other)
        check_above(one, other, rows)
        carried(one, other)
        steps_by(rows)
        check_carried(one, other, rows, heights)
        mean_of(spread, heights)
        heights_for(one, other)
        share_of(one, other)
    """,
    "samples": """
        Figures.__init__(base, row)
        Figures.take()
        Figures.below(many)
        unranked(number, many)
        ranked(row)
        unranked_lot(number, many, few)
        ranked_lot(lot, many)
        shuffled(row, figures)
        by_weights(spread, figures)
        alias(spread)
        check_alias(spread, rows)
        coins(spread, depth)
        coin_mean(words, depth)
        counted(draw, base, long)
    """,
    "beliefs": """
        Beliefs.__init__(rows)
        Beliefs.chance(name)
        Beliefs.seen(chances)
        Beliefs.before(chances)
        Beliefs.likeliest()
        Beliefs.mean(values)
        Beliefs.shown()
        after(beliefs, yes, many, good)
        two_ways(first, second, ends, most)
        odds(first, second, many, good)
        next_yes(many, good)
        two_machines(seen, left)
        best_of(table, seen, left)
    """,
    "cups": """
        check_results(table)
        knock_out(table, draw)
        met(rows, mine, theirs)
        is_two(number)
        league(table)
        race(chance, mine, theirs)
        fair_share(chance, mine, theirs)
        series(chance, wins)
        best_draw(table, one)
    """,
    "sums": """
        Sum.__init__()
        Sum.put(name, spread)
        Sum.take(name)
        Sum.names()
        Sum.needed(name, goal)
        how_many(chances)
        from_overlaps(overlaps)
        overlaps_of(spread, many)
        shortfall(spread, goal)
        least_goal(spread, chance)
    """,
    "desks": """
        whole(word)
        figure_of(text)
        Desk.__init__()
        Desk.say(line)
        Desk.do(line)
        Desk.answer(words)
        Desk.written(words)
        lines_of(text)
        done_again(text)
    """,
}


def defined(module):
    """Return the names that a file defines by def and class, a class's methods behind its name and a dot."""
    found = []
    for node in ast.parse((PACKAGE / (module + ".py")).read_text()).body:
        if isinstance(node, (ast.FunctionDef, ast.ClassDef)):
            found.append(node.name)
        if isinstance(node, ast.ClassDef):
            found.extend(node.name + "." + inner.name for inner in node.body if isinstance(inner, ast.FunctionDef))
    return found


def signature_of(module, name):
    """Return the arguments of a def as they are written, without a method's own object."""
    found = importlib.import_module("luckwright." + module)
    for word in name.split("."):
        found = getattr(found, word)
    arguments = list(inspect.signature(found).parameters.values())
    if "." in name:
        arguments = arguments[1:]
    return "(" + ", ".join(str(argument) for argument in arguments) + ")"


class InterfaceTest(unittest.TestCase):
    def test_each_def_stands_in_its_file_with_its_arguments(self):
        for module, text in INTERFACE.items():
            names = defined(module)
            for row in text.strip().splitlines():
                name, sign, arguments = row.strip().partition("(")
                for word in name.split():
                    with self.subTest(module=module, name=word):
                        self.assertIn(word, names)
                if sign:
                    self.assertEqual(signature_of(module, name), sign + arguments)

    def test_each_file_has_words_of_its_own(self):
        for path in PACKAGE.glob("*.py"):
            self.assertTrue(ast.get_docstring(ast.parse(path.read_text())), path.name)
