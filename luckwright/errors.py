"""The errors of luckwright: all stand under ChanceFault, a ValueError."""


class ChanceFault(ValueError):
    """What luckwright refuses."""


class BadPart(ChanceFault):
    """A part that can't be, or isn't from nought to one."""


class BadSpread(ChanceFault):
    """Weights that can't be, or that are all nought."""


class BadTree(ChanceFault):
    """A tree, chain or net that can't be."""


class BadPaper(ChanceFault):
    """A paper that doesn't show what it is to show."""


class BadSize(ChanceFault):
    """A count or number that is out of bounds."""


class BadText(ChanceFault):
    """A text that isn't one of the language."""


class BadStore(ChanceFault):
    """Kept words that aren't whole."""


class NoChance(ChanceFault):
    """What is asked on a condition that never is."""


class NoSuch(ChanceFault):
    """What isn't there."""
