"""Urns: balls of kinds drawn with or without being put back, with more put in, and all kinds collected."""

from luckwright.counts import choose, falling, onto
from luckwright.errors import BadSize
from luckwright.parts import NOUGHT, ONE, check_chance, is_less, part, plus, raised
from luckwright.spreads import Spread


def check_urn(counts):
    """Return the counts of an urn's kinds; BadSize for one below nought, or no balls."""
    if len(counts) == 0 or min(counts) < 0 or sum(counts) == 0:
        raise BadSize("an urn without balls, or a count below nought")
    return tuple(counts)


def of_kind(counts, kind):
    """Return how many balls of an urn are of a kind, and how many aren't; BadSize."""
    rows = check_urn(counts)
    if not 0 <= kind < len(rows):
        raise BadSize("a kind that isn't there")
    return rows[kind], sum(rows) - rows[kind]


def kept_out(counts, kind, many):
    """Return the spread of how many of a kind are among so many drawn and not put back; BadSize."""
    mine, others = of_kind(counts, kind)
    if not 0 <= many <= mine + others:
        raise BadSize("more drawn than there are, or fewer than none")
    return Spread({few: choose(mine, few) * choose(others, many - few) for few in range(many + 1)})


def put_back(counts, kind, many):
    """Return the spread of how many of a kind are among so many drawn, each put back; BadSize."""
    mine, others = of_kind(counts, kind)
    if many < 0:
        raise BadSize("fewer drawn than none")
    return Spread({few: choose(many, few) * raised(mine, few) * raised(others, many - few)
                   for few in range(many + 1)})


def with_more(counts, kind, many, more):
    """Return the spread of how many of a kind are among so many drawn, each put back with more of it; BadSize."""
    mine, others = of_kind(counts, kind)
    if many < 0 or more < 0:
        raise BadSize("fewer drawn, or put in, than none")
    yes, no = growing(mine, more, many), growing(others, more, many)
    return Spread({few: choose(many, few) * yes[few] * no[many - few] for few in range(many + 1)})


def growing(count, more, many):
    """Return, for none up to so many draws of a kind, in how many ways they go when each puts more of it in."""
    found = [1]
    for drawn in range(many):
        found.append(found[drawn] * (count + drawn * more))
    return found


def row_chance(counts, row):
    """Return the chance that balls drawn and not put back are of kinds in a row's order; BadSize."""
    rows = check_urn(counts)
    if any([not 0 <= kind < len(rows) for kind in row]) or len(row) > sum(rows):
        raise BadSize("a kind that isn't there, or more drawn than there are")
    found = 1
    for kind, count in enumerate(rows):
        found = found * falling(count, len([one for one in row if one == kind]))
    return part(found, falling(sum(rows), len(row)))


def first_of(counts, kind):
    """Return the spread of which draw, from one on, first is of a kind, none put back; BadSize for a bare kind."""
    mine, others = of_kind(counts, kind)
    if mine == 0:
        raise BadSize("none of a kind")
    return Spread({draw: choose(mine + others - draw, mine - 1) for draw in range(1, others + 2)})


def check_draws(many, draws):
    """Refuse with BadSize fewer kinds than one, or fewer draws than none."""
    if many < 1 or draws < 0:
        raise BadSize("fewer kinds than one, or fewer draws than none")


def all_kinds(many, draws):
    """Return the chance that so many draws, put back, of so many alike kinds show all of them; BadSize."""
    check_draws(many, draws)
    return part(onto(draws, many), raised(many, draws))


def collected(many, have):
    """Return the mean count of draws, put back, till all of so many alike kinds are had, some had; BadSize."""
    if not 0 <= have <= many or many < 1:
        raise BadSize("fewer kinds than one, or more had than there are, or fewer than none")
    found = NOUGHT
    for lacking in range(1, many - have + 1):
        found = plus(found, part(many, lacking))
    return found


def unlike(many, draws):
    """Return the chance that so many draws, put back, of so many alike kinds are all unlike; BadSize."""
    check_draws(many, draws)
    return part(falling(many, draws), raised(many, draws))


def least_alike(many, chance):
    """Return the fewest draws, put back, by which two are alike with a chance or more; BadSize."""
    if many < 1:
        raise BadSize("fewer kinds than one")
    # With one draw more than there are kinds two are alike for sure, so only what is above one is never so likely.
    if is_less(ONE, chance):
        raise BadSize("never so likely")
    draws = 0
    ways, unlike_ways = 1, 1
    while (ways - unlike_ways) * chance[1] < chance[0] * ways:
        ways, unlike_ways = ways * many, unlike_ways * (many - draws)
        draws = draws + 1
    return draws


def bare_lots(lots, balls):
    """Return the spread of how many of some lots stay bare when balls fall in lots alike; BadSize."""
    check_draws(lots, balls)
    return Spread({bare: choose(lots, bare) * onto(balls, lots - bare) for bare in range(lots + 1)})


def longest_run(many, run, yes):
    """Return the chance of a run of so many yeses in so many draws, each yes by a chance; BadSize."""
    if run < 1 or many < 0:
        raise BadSize("a run of fewer than one, or fewer draws than none")
    top, low = check_chance(yes)
    # Ways by how many yeses stand at the end, while no run was long enough.
    ends = [1] + [0] * (run - 1)
    found = 0
    for _ in range(many):
        found = found * low + ends[-1] * top
        ends = [sum(ends) * (low - top)] + [ways * top for ways in ends[:-1]]
    return part(found, raised(low, many))
