"""Dice: rolls added, the best or worst of several kept, rolled again, and written."""

from collections import defaultdict

from luckwright.counts import choose
from luckwright.errors import BadSize, BadText
from luckwright.spreads import Spread, added, added_often, even, sure

FIGURES = '0123456789'


def die(sides):
    """Return the spread of a die from one on; BadSize below one."""
    if sides < 1:
        raise BadSize("a die without sides")
    return even(list(range(1, sides + 1)))


def rolls(many, sides):
    """Return the spread of the sum of so many dice; BadSize."""
    if many < 0:
        raise BadSize("fewer dice than none")
    return added_often(die(sides), many)


def kept(many, sides, keep, best=True):
    """Return the spread of the sum of the best, or worst, so many of some dice; BadSize."""
    if not 0 <= keep <= many or sides < 1:
        raise BadSize("more kept than rolled, fewer than none, or dice without sides")
    faces = list(range(1, sides + 1))
    if best:
        faces.reverse()
    states = {(0, 0): 1}
    for side in faces:
        states = laid(states, many, keep, side, side == faces[-1])
    return Spread({score: weight for (count, score), weight in states.items()})


def laid(states, many, keep, side, last):
    """Return (dice told, sum kept) states with weights, when some more dice show a side, all left ones for the last."""
    found = {}
    for (count, score), weight in states.items():
        left = many - count
        for few in range(left if last else 0, left + 1):
            # The sides come in the order in which dice are kept, so those told first fill the places.
            keeping = min(few, max(0, keep - count))
            state = (count + few, score + keeping * side)
            found[state] = found.get(state, 0) + weight * ways(left, few)
    return found


def ways(many, few):
    """Return in how many ways few dice are of many."""
    return choose(many, few)


def again(spread, test):
    """Return the spread of a number rolled again, once, where a function tells True of it."""
    stays = {value: weight for value, weight in spread.weights.items() if not test(value)}
    rolled = spread.whole - sum(stays.values())
    rows = {value: weight * rolled for value, weight in spread.weights.items()}
    for value, weight in stays.items():
        rows[value] = rows[value] + weight * spread.whole
    return Spread(rows)


def bursting(sides, most):
    """Return the spread of a die rolled on and added while it shows its greatest side, up to so many rolls; BadSize."""
    if most < 1:
        raise BadSize("fewer rolls than one")
    found = die(sides)
    for _ in range(most - 1):
        found = mixed_in(die(sides), sides, found)
    return found


def mixed_in(spread, side, more):
    """Return a spread in which a number has another spread's added to it."""
    rows = defaultdict(int)
    for value, weight in spread.weights.items():
        if value == side:
            for further, often in more.weights.items():
                rows[value + further] += weight * often
        else:
            rows[value] += weight * more.whole
    return Spread(dict(rows))


def hits(many, sides, least):
    """Return the spread of how many of some dice show a least side or more; BadSize."""
    if many < 0:
        raise BadSize("fewer dice than none")
    return added_often(die(sides).through(lambda side: 1 if side >= least else 0), many)


def read(text):
    """Return the spread of words: 3d6, 4d6b3 (best), 4d6w3 (worst), numbers, with + or - between; BadText, BadSize."""
    found = sure(0)
    for word in text.replace("-", "+-").split("+"):
        if word.startswith("-"):
            found = added(found, term(word[1:]).through(lambda value: -value))
        else:
            found = added(found, term(word))
    return found


def term(word):
    """Return the spread of a word without signs; BadText, BadSize."""
    if "d" not in word:
        return sure(number(word))
    many, _, dice = word.partition("d")
    for mark in ("b", "w"):
        if mark in dice:
            sides, _, keep = dice.partition(mark)
            return kept(number(many), number(sides), number(keep), mark == "b")
    return rolls(number(many), number(dice))


def number(word):
    """Return the number of one or two figures; BadText."""
    if not 0 < len(word) < 3 or word.strip(FIGURES) != '':
        raise BadText("no number of one or two figures")
    return int(word)


def pool(spreads):
    """Return the spread of the sum of spreads, nought for none."""
    found = sure(0)
    for spread in spreads:
        found = added(found, spread)
    return found
