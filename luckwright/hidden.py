"""Hidden: a walk that isn't seen, signs that are, and what these tell of it."""

from luckwright.errors import BadPaper, BadTree, NoChance
from luckwright.lines import by_row, check_rows, step
from luckwright.parts import NOUGHT, ONE, check_chance, greatest_of, is_less, over, times, total


class Hidden:
    """First chances of places, square rows of steps, and for each place the chances of letters, in their order."""

    def __init__(self, first, rows, signs, letters):
        self.first = tuple([check_chance(one) for one in first])
        self.rows = check_rows(rows)
        self.signs = [tuple([check_chance(one) for one in row]) for row in signs]
        self.letters = letters[:]
        if len(self.first) != len(self.rows) or total(self.first) != ONE or len(self.signs) != len(self.rows):
            raise BadTree("first chances that are not one in all, or not a row of signs for each place")
        if any([len(row) != len(letters) or total(row) != ONE for row in self.signs]):
            raise BadTree("a row of signs that is not one in all, or not a chance for each letter")

    def size(self):
        """Return how many places there are."""
        return len(self.rows)

    def sign(self, place, letter):
        """Return the chance of a letter at a place, nought for none of the letters."""
        for one, chance in zip(self.letters, self.signs[place]):
            if one == letter:
                return chance
        return NOUGHT

    def with_sign(self, chances, letter):
        """Return chances of the places, each by the chance of a letter there."""
        return tuple([times(chance, self.sign(place, letter)) for place, chance in enumerate(chances)])

    def ahead(self, word):
        """Return, for each letter, the chances of each place and all letters up to it."""
        found = []
        for letter in word:
            here = self.first if found == [] else step(found[-1], self.rows)
            found.append(self.with_sign(here, letter))
        return tuple(found)

    def behind(self, word):
        """Return, for each letter, the chances, from each place, of all letters behind it."""
        found = [tuple([ONE] * self.size()) for letter in word]
        for number in range(len(word) - 1, 0, -1):
            further = self.with_sign(found[number], word[number])
            found[number - 1] = tuple([by_row(row, further) for row in self.rows])
        return tuple(found)

    def chance(self, word):
        """Return the chance of a word's letters, one for the bare word."""
        return total(self.ahead(word)[-1]) if len(word) > 0 else ONE

    def places_by(self, word):
        """Return, for each letter, the chances of the places there where all letters are seen; NoChance."""
        whole = self.chance(word)
        if whole[0] == 0:
            raise NoChance("a word that is never seen")
        return tuple([tuple([over(times(one, other), whole) for one, other in zip(up_to, further)])
                      for up_to, further in zip(self.ahead(word), self.behind(word))])

    def likeliest(self, word):
        """Return the places of a likeliest way with a word, from the end back the lowest; NoChance."""
        table = self.best_to(word)
        if len(table) == 0:
            return ()
        best = max_place(table[-1])
        if table[-1][best][0] == 0:
            raise NoChance("a word that is never seen")
        way = [best]
        for number in range(len(table) - 2, -1, -1):
            way.append(max_place(self.ways_to(table[number], way[-1])))
        return tuple(way[::-1])

    def best_to(self, word):
        """Return, for each letter, the chance of the likeliest way to each place with all letters up to it."""
        found = []
        for letter in word:
            here = self.first
            if found != []:
                here = [greatest_of(self.ways_to(found[-1], place)) for place in range(self.size())]
            found.append(self.with_sign(here, letter))
        return tuple(found)

    def ways_to(self, chances, place):
        """Return, for each place, its chance by that of a step from it to another place."""
        return [times(chance, row[place]) for chance, row in zip(chances, self.rows)]

    def way_chance(self, word, way):
        """Return the chance of a way and a word together; BadTree for unlike lengths, or a place that isn't there."""
        if len(word) != len(way) or any([not 0 <= place < self.size() for place in way]):
            raise BadTree("a way of another length, or a place that isn't there")
        found = ONE
        for number, letter in enumerate(word):
            here = self.first if number == 0 else self.rows[way[number - 1]]
            found = times(found, times(here[way[number]], self.sign(way[number], letter)))
        return found


def max_place(parts):
    """Return the first place of the greatest part."""
    found = 0
    for place, one in enumerate(parts):
        if is_less(parts[found], one):
            found = place
    return found


def check_way(hidden, word, way, table):
    """Return the chance of a way that a table shows to be likeliest: no place's below any way's to it; BadPaper."""
    if len(table) != len(word) or any([len(row) != hidden.size() for row in table]):
        raise BadPaper("not a row for each letter, or not a chance for each place")
    for number, letter in enumerate(word):
        for place in range(hidden.size()):
            ways = [hidden.first[place]] if number == 0 else hidden.ways_to(table[number - 1], place)
            least = times(greatest_of(ways), hidden.sign(place, letter))
            if is_less(table[number][place], least):
                raise BadPaper("a chance that is too little")
    here = hidden.way_chance(word, way)
    if len(word) > 0 and here != tuple(table[-1][max_place(table[-1])]):
        raise BadPaper("a way that isn't the likeliest")
    return here
