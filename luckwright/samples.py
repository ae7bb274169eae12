"""Samples: numbers, orders and lots by figures of luck, each alike often over all figures, and trees of coins."""

from collections import defaultdict

from luckwright.counts import check_count, choose, factorial
from luckwright.errors import BadPaper, BadSize
from luckwright.parts import part, plus, raised
from luckwright.spreads import Spread


class Figures:
    """A row of figures of luck, each below a base, and which comes next."""

    def __init__(self, base, row):
        self.base = base
        self.row = tuple(row)
        self.place = 0
        if base < 2 or any([not 0 <= one < base for one in self.row]):
            raise BadSize("a base below two, or a figure that isn't below it")

    def take(self):
        """Return the next figure; BadSize behind the last."""
        if self.place == len(self.row):
            raise BadSize("no more figures")
        self.place = self.place + 1
        return self.row[self.place - 1]

    def below(self, many):
        """Return a number below so many, each alike often: figures are taken till they tell one; BadSize."""
        if many < 1:
            raise BadSize("no number is below none")
        # Where the figures don't suffice none is taken, so the place goes on only when a number is told.
        place = self.place
        number, cases = 0, 1
        while True:
            left = cases % many
            if number < cases - left:
                self.place = place
                return number % many
            if place == len(self.row):
                raise BadSize("no more figures")
            number = (number - (cases - left)) * self.base + self.row[place]
            cases = left * self.base
            place = place + 1


def unranked(number, many):
    """Return the order of so many at a place among all orders, in order; BadSize."""
    if not 0 <= number < factorial(many):
        raise BadSize("no such order")
    left = list(range(many))
    rest = number
    found = []
    for further in range(many - 1, -1, -1):
        place = rest // factorial(further)
        rest = rest - place * factorial(further)
        found.append(left.pop(place))
    return tuple(found)


def ranked(row):
    """Return the place of an order among all orders, in order; BadSize for none."""
    if sorted(row) != list(range(len(row))):
        raise BadSize("no order")
    found = 0
    for place, one in enumerate(row):
        lesser_ones = len([other for other in row[place + 1:] if other < one])
        found = found + lesser_ones * factorial(len(row) - place - 1)
    return found


def unranked_lot(number, many, few):
    """Return the lot of few of many at a place among all such, in order; BadSize."""
    if not 0 <= number < choose(many, few):
        raise BadSize("no such lot")
    rest = number
    found = []
    for one in range(many):
        # So many of the lots that are left have this one.
        with_it = choose(many - one - 1, few - len(found) - 1)
        if rest < with_it:
            found.append(one)
        else:
            rest = rest - with_it
    return tuple(found)


def ranked_lot(lot, many):
    """Return the place of a lot among all as great, in order; BadSize for one that doesn't rise below many."""
    check_count(many)
    if any([not 0 <= one < many for one in lot]) or any([second <= first for first, second in zip(lot, lot[1:])]):
        raise BadSize("no lot")
    # Of the lots that stand behind it, those that have its first ones go on with greater ones.
    behind = sum([choose(many - one - 1, len(lot) - place) for place, one in enumerate(lot)])
    return choose(many, len(lot)) - 1 - behind


def shuffled(row, figures):
    """Return a row in an order by figures: each order alike often; BadSize."""
    found = list(row)
    start = figures.place
    for place in range(len(found) - 1, 0, -1):
        try:
            other = figures.below(place + 1)
        except BadSize:
            figures.place = start
            raise BadSize("no more figures") from None
        found[place], found[other] = found[other], found[place]
    return tuple(found)


def by_weights(spread, figures):
    """Return a number by a spread and figures; BadSize."""
    left = figures.below(spread.whole)
    for value in spread.numbers():
        if left < spread.weights[value]:
            return value
        left = left - spread.weights[value]
    raise BadSize("no number")


def alias(spread):
    """Return rows (number, limit, other), numbers in order: a draw below the whole tells the number if under the limit,
    else the other; the first that lacks is filled by the first that has too much."""
    numbers = spread.numbers()
    left = {value: spread.weights[value] * len(numbers) for value in numbers}
    found = {value: (value, spread.whole, value) for value in numbers}
    while min(left.values()) < spread.whole:
        value = [one for one in numbers if left[one] < spread.whole][0]
        other = [one for one in numbers if left[one] > spread.whole][0]
        found[value] = (value, left[value], other)
        left[other] = left[other] - (spread.whole - left[value])
        left[value] = spread.whole
    return tuple([found[value] for value in numbers])


def check_alias(spread, rows):
    """Return True where rows' numbers come just by a spread's chances; BadPaper, for no rows, too."""
    counts = {}
    for value, limit, other in rows:
        if not 0 <= limit <= spread.whole:
            raise BadPaper("a limit below nought, or above the whole")
        counts[value] = counts.get(value, 0) + limit
        counts[other] = counts.get(other, 0) + spread.whole - limit
    due = {value: weight * len(rows) for value, weight in spread.weights.items()}
    if {value: count for value, count in counts.items() if count > 0} != due:
        raise BadPaper("another spread")
    return True


def coins(spread, depth):
    """Return a table of words of 0 and 1, up to a depth, to numbers: the fewest coins, numbers in order; BadSize."""
    if depth < 0:
        raise BadSize("fewer coins than none")
    found = {}
    words = [""]
    left = dict(spread.weights)
    for _ in range(depth + 1):
        told = [value for value in spread.numbers() if left[value] >= spread.whole]
        found.update(dict(zip(words, told)))
        words = [word + side for word in words[len(told):] for side in ("0", "1")]
        # At the next depth a word is half as likely, so what is left counts twice.
        left = {value: 2 * (weight - spread.whole if value in told else weight) for value, weight in left.items()}
    return found


def coin_mean(words, depth):
    """Return the mean count of coins thrown by a table of words, those without a word taking the depth."""
    found = part(depth)
    for word in words:
        # Behind a word no coin is thrown, nor behind the depth, so no further word comes there.
        if len(word) <= depth and not any([word[:long] in words for long in range(len(word))]):
            found = plus(found, part(len(word) - depth, raised(2, len(word))))
    return found


def counted(draw, base, long):
    """Return the spread of what a function makes of all rows of so many figures, those too short left out; BadSize."""
    if long < 0:
        raise BadSize("fewer figures than none")
    counts = defaultdict(int)
    for number in range(raised(base, long)):
        figures = Figures(base, figures_of(number, base, long))
        try:
            found = draw(figures)
        except BadSize:
            continue
        counts[found] += 1
    if len(counts) == 0:
        raise BadSize("never enough figures")
    return Spread(dict(counts))


def figures_of(number, base, long):
    """Return a list of so many figures of a number, the last ones in front."""
    found = []
    rest = number
    for _ in range(long):
        found.append(rest % base)
        rest = rest // base
    return found
