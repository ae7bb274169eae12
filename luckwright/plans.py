"""Plans: places where one chooses how to go on and is paid, for so many steps or for ever with later pay worth less."""

from luckwright.errors import BadPaper, BadTree
from luckwright.hidden import max_place
from luckwright.lines import by_row, solved
from luckwright.parts import NOUGHT, ONE, check_chance, is_less, minus, part, plus, raised, times, total


class Plans:
    """For each place, choices (pay, chances to go on), and what pay one step later is worth, below one."""

    def __init__(self, places, later):
        self.later = check_chance(later)
        self.places = [[(part(*pay), tuple([part(*one) for one in row])) for pay, row in choices]
                       for choices in places]
        many = len(self.places)
        if many == 0 or any([choices == [] for choices in self.places]) or self.later == ONE:
            raise BadTree("no place, a place without a choice, or later pay that is worth as much")
        for row in [choice[1] for choices in self.places for choice in choices]:
            if len(row) != many or total([check_chance(one) for one in row]) != ONE:
                raise BadTree("a row of chances that is not one in all, or not a chance for each place")

    def worth_of(self, place, number, values):
        """Return what a choice is worth when places are worth so much a step later."""
        pay, row = self.places[place][number]
        return plus(pay, times(self.later, by_row(row, values)))

    def for_steps(self, count):
        """Return (worths, choices) of all places for so many steps, the first best choices; BadTree below nought."""
        if count < 0:
            raise BadTree("fewer steps than none")
        # With no steps nothing is paid, so the first choices are as good as any.
        worths = tuple([NOUGHT for choices in self.places])
        numbers = tuple([0 for choices in self.places])
        for _ in range(count):
            numbers = tuple([self.best_choice(place, worths) for place in range(len(self.places))])
            worths = tuple([self.worth_of(place, number, worths) for place, number in enumerate(numbers)])
        return worths, numbers

    def best_choice(self, place, values):
        """Return the first best choice of a place when places are worth so much a step later."""
        return max_place([self.worth_of(place, number, values) for number in range(len(self.places[place]))])

    def worth_by(self, numbers):
        """Return the tuple of what all places are worth for ever by one choice for each; BadTree for choices not there.
        """
        if len(numbers) != len(self.places):
            raise BadTree("not a choice for each place")
        rows, pays = [], []
        for place, number in enumerate(numbers):
            if not 0 <= number < len(self.places[place]):
                raise BadTree("a choice that isn't there")
            pay, row = self.places[place][number]
            # What a place is worth, less what its way on is worth a step later, is what is paid.
            rows.append([minus(ONE if other == place else NOUGHT, times(self.later, one))
                         for other, one in enumerate(row)])
            pays.append(pay)
        return solved(rows, pays)

    def best(self):
        """Return (worths, choices) for ever: from the first choices on, each bettered till none is better."""
        numbers = tuple([0 for choices in self.places])
        while True:
            worths = self.worth_by(numbers)
            bettered = tuple([self.bettered(place, number, worths) for place, number in enumerate(numbers)])
            if bettered == numbers:
                return worths, numbers
            numbers = bettered

    def bettered(self, place, number, values):
        """Return the first best choice of a place where it is better than another, else that one."""
        found = self.best_choice(place, values)
        if is_less(self.worth_of(place, number, values), self.worth_of(place, found, values)):
            return found
        return number


def check_best(plans, numbers, values):
    """Return the worths of choices for ever that no choice betters anywhere, as worths show; BadPaper."""
    worths = plans.worth_by(numbers)
    if tuple(values) != worths:
        raise BadPaper("worths that aren't those of the choices")
    for place, choices in enumerate(plans.places):
        for number in range(len(choices)):
            if is_less(worths[place], plans.worth_of(place, number, worths)):
                raise BadPaper("a choice that is better")
    return worths


def stop_values(spread, steps):
    """Return, for one, two and so on draws left, their worth: what is drawn is taken or let go, the last is taken."""
    found = []
    for _ in range(steps):
        # What is let go leaves the worth of one draw fewer; the last can't be let go.
        top, low = found[-1] if found != [] else (spread.numbers()[0], 1)
        worth = sum([max(value * low, top) * weight for value, weight in spread.weights.items()])
        found.append(part(worth, low * spread.whole))
    return tuple(found)


def stakes(chance, goal, rounds):
    """Return, for each sum up to a goal, the greatest chance to have the goal within so many rounds; BadTree."""
    if goal < 1 or rounds < 0:
        raise BadTree("a goal below one, or fewer rounds than none")
    top, low = check_chance(chance)
    # The cases that come to the goal, of all of so many rounds' cases; a stake of nought lets a round go by.
    cases = [0] * goal + [1]
    for _ in range(rounds):
        cases = [max([top * cases[have + stake] + (low - top) * cases[have - stake]
                      for stake in range(min(have, goal - have) + 1)]) for have in range(goal + 1)]
    return tuple([part(one, raised(low, rounds)) for one in cases])


def ruin(chance, have, goal):
    """Return the chance to come to a goal ahead of nought by stakes of one; BadTree for no such sum, or a sure one."""
    win = check_chance(chance)
    if not 0 <= have <= goal or goal < 1 or win[0] in (0, win[1]):
        raise BadTree("no such sum, or a sure chance")
    yes, no = win[0], win[1] - win[0]
    if yes == no:
        return part(have, goal)
    lacking = goal - have
    return part((raised(yes, have) - raised(no, have)) * raised(yes, lacking), raised(yes, goal) - raised(no, goal))
