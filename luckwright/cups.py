"""Cups: who wins when all play by chances: knock-outs, leagues and races, exactly."""

from itertools import permutations

from luckwright.counts import choose
from luckwright.errors import BadSize, BadTree
from luckwright.parts import NOUGHT, ONE, check_chance, is_less, other_way, part, plus, raised, times, total


def check_results(table):
    """Return rows of chances that one wins against another, both ways one in all, one's own place as told; BadTree."""
    rows = [tuple([None if one is None else check_chance(one) for one in row]) for row in table]
    many = len(rows)
    if any([len(row) != many for row in rows]):
        raise BadTree("rows that are not square")
    for one in range(many):
        for other in range(one):
            if rows[one][other] is None or rows[other][one] is None:
                raise BadTree("no chance")
            if plus(rows[one][other], rows[other][one]) != ONE:
                raise BadTree("chances that are not one both ways")
    return rows


def knock_out(table, draw):
    """Return each one's chance to win a knock-out, neighbours first, of two, four, eight, or one; BadTree, BadSize."""
    rows = check_results(table)
    if sorted(draw) != list(range(len(rows))) or len(draw) == 0 or not is_two(len(draw)):
        raise BadSize("no draw")
    lots = [((one, ONE),) for one in draw]
    while len(lots) > 1:
        lots = [met(rows, lots[at], lots[at + 1]) + met(rows, lots[at + 1], lots[at])
                for at in range(0, len(lots), 2)]
    chances = dict(lots[0])
    return tuple([chances[one] for one in range(len(rows))])


def met(rows, mine, theirs):
    """Return ((one, chance), ..): that each of a lot comes through it and beats who comes through another."""
    return tuple([(one, times(chance, total([times(rest, rows[one][other]) for other, rest in theirs])))
                  for one, chance in mine])


def is_two(number):
    """Tell whether a number is two so often times itself."""
    rest = number
    while rest > 1 and rest & 1 == 0:
        rest = rest // 2
    return rest == 1


def league(table):
    """Return each one's chance to be alone first when each plays each once; BadTree, BadSize past five."""
    rows = check_results(table)
    if len(rows) > 5:
        raise BadSize("more than five")
    states = {tuple([0] * len(rows)): ONE}
    for one in range(len(rows)):
        for other in range(one):
            states = played(states, one, other, rows[one][other])
    found = [NOUGHT] * len(rows)
    for wins, chance in states.items():
        firsts = [place for place, count in enumerate(wins) if count == max(wins)]
        if len(firsts) == 1:
            found[firsts[0]] = plus(found[firsts[0]], chance)
    return tuple(found)


def played(states, one, other, chance):
    """Return a table of rows of wins to chances when two have played, the first of them winning by a chance."""
    found = {}
    for wins, so_far in states.items():
        for winner, share in ((one, chance), (other, other_way(chance))):
            row = tuple([count + 1 if place == winner else count for place, count in enumerate(wins)])
            found[row] = plus(found.get(row, NOUGHT), times(so_far, share))
    return found


def race(chance, mine, theirs):
    """Return the chance to win so many points ahead of another's so many, each point by a chance; BadSize."""
    if mine < 0 or theirs < 0 or mine + theirs == 0:
        raise BadSize("fewer points than none, or none on either side")
    top, low = check_chance(chance)
    if mine == 0:
        return ONE
    # The race ends by a point of one's own, when the other has had some, but not all; the points left may be any.
    cases = sum([choose(mine - 1 + lost, lost) * raised(low - top, lost) * raised(low, theirs - 1 - lost)
                 for lost in range(theirs)])
    return part(cases * raised(top, mine), raised(low, mine + theirs - 1))


def fair_share(chance, mine, theirs):
    """Return the shares of a stake when a race is left off: each one's chance to win it; BadSize."""
    won = race(chance, mine, theirs)
    return won, other_way(won)


def series(chance, wins):
    """Return, for each count of games, the chance that the first to so many wins needs just so many; BadSize."""
    if wins < 1:
        raise BadSize("fewer wins than one")
    top, low = check_chance(chance)
    found = {}
    for games in range(wins, 2 * wins):
        # The last game is won by who wins all; so are all others of that one's wins, in any order.
        won = raised(top, wins) * raised(low - top, games - wins)
        lost = raised(low - top, wins) * raised(top, games - wins)
        found[games] = part(choose(games - 1, wins - 1) * (won + lost), raised(low, games))
    return found


def best_draw(table, one):
    """Return the least draw, a tuple, by which one is likeliest to win the knock-out; BadTree, BadSize past four."""
    rows = check_results(table)
    if len(rows) > 4 or not 0 <= one < len(rows):
        raise BadSize("more than four, or one that isn't there")
    found, most = None, None
    for draw in permutations(range(len(rows))):
        chance = knock_out(rows, draw)[one]
        if most is None or is_less(most, chance):
            found, most = draw, chance
    return found
