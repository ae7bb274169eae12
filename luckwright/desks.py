"""Desks: lines said to sums of dice by names, answered, written down and done again."""

from luckwright.dice import number, read
from luckwright.errors import (BadPaper, BadPart, BadSize, BadSpread, BadStore, BadText, BadTree, ChanceFault, NoChance,
                               NoSuch)
from luckwright.parts import told
from luckwright.sums import Sum
from luckwright.trials import at_least

BASE = 9973
WIDE = 2000003


def whole(word):
    """Return the whole number of a word, a stroke ahead of one below nought; BadText."""
    if word.startswith("-"):
        return -number(word[1:])
    return number(word)


def figure_of(text):
    """Return a text's figure: its signs' numbers added up, then weighed by their places from one on."""
    signs = [ord(sign) for sign in text]
    weighed = [place * sign for place, sign in enumerate(signs, start=1)]
    return sum(signs) % WIDE * BASE + sum(weighed) % BASE


class Desk:
    """A sum of spreads by names, and the text of what was done."""

    def __init__(self):
        self.sum = Sum()
        self.text = ""
        self.many = 0

    def say(self, line):
        """Do or answer a line; return the answer, "error: ..." for what is refused."""
        try:
            return self.do(line)
        except BadText:
            return "error: text"
        except BadPart:
            return "error: part"
        except BadSpread:
            return "error: spread"
        except BadTree:
            return "error: tree"
        except BadPaper:
            return "error: paper"
        except BadSize:
            return "error: size"
        except NoChance:
            return "error: no chance"
        except NoSuch:
            return "error: no such"

    def do(self, line):
        """Do or answer a line by its first word; what changes something is written down; BadText."""
        words = line.split()
        if words == []:
            raise BadText("a bare line")
        if words[0] == "put" and len(words) == 3:
            spread = read(words[2])
            self.sum.put(words[1], spread)
            return self.written(words)
        if words[0] == "take" and len(words) == 2:
            self.sum.take(words[1])
            return self.written(words)
        return self.answer(words)

    def answer(self, words):
        """Return a chance, the mean, the scatter, the middle, all chances, or the names; BadText, NoChance."""
        spread = self.sum.spread
        if len(words) == 4 and words[0] == "given" and words[1] == "least":
            goal, value = whole(words[2]), whole(words[3])
            return told(spread.given(lambda one: one >= goal).chance(value))
        if len(words) == 2 and words[0] in ("least", "most", "just"):
            return told(chance_by(spread, words[0], whole(words[1])))
        if len(words) == 1 and words[0] == "mean":
            return told(spread.mean())
        if len(words) == 1 and words[0] == "scatter":
            return told(spread.scatter())
        if len(words) == 1 and words[0] == "middle":
            return str(spread.middle())
        if len(words) == 1 and words[0] == "all":
            return " ".join([f"{value}:{told(spread.chance(value))}" for value in spread.numbers()])
        if len(words) == 1 and words[0] == "names":
            return " ".join(self.sum.names())
        raise BadText("no line")

    def written(self, words):
        """Write a done line with its number and figure; return the sum's new mean."""
        body = " ".join([str(self.many), *words])
        self.text = f"{self.text}{body} {figure_of(body)}\n"
        self.many = self.many + 1
        return told(self.sum.spread.mean())


def chance_by(spread, word, value):
    """Return the chance of a number or more, of it or less, or of just it, by a word."""
    if word == "least":
        return at_least(spread, value)
    if word == "most":
        return spread.up_to(value)
    return spread.chance(value)


def lines_of(text):
    """Return the lines of a written text, a row without an end left out; BadStore."""
    found = []
    for place, row in enumerate(text.split("\n")[:-1]):
        body, _, figure = row.rpartition(" ")
        head, _, line = body.partition(" ")
        if head != str(place) or figure != str(figure_of(body)):
            raise BadStore("a row that isn't whole")
        found.append(line)
    return tuple(found)


def done_again(text):
    """Return the desk that a text's lines make from nothing; BadStore for what can't be."""
    desk = Desk()
    for line in lines_of(text):
        try:
            desk.do(line)
        except ChanceFault:
            raise BadStore("a line that can't be done") from None
    # What is only answered, or is written in another way, is no row of a written text.
    if desk.text != text[:text.rfind("\n") + 1]:
        raise BadStore("a line that isn't written so")
    return desk
