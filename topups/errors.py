"""The errors of the package, one class for each kind of wrong argument or failure."""


class PotError(ValueError):
    """The base of all errors of the package."""


class InvalidContent(PotError):
    """Not a content, or not a list of contents."""


class InvalidPots(PotError):
    """Not a list of pots."""


class InvalidNumbers(PotError):
    """Not a list of numbers or of weights."""


class InvalidKept(PotError):
    """Not a kept share, a list of kept shares or a menu."""


class InvalidRow(PotError):
    """Not a row."""


class InvalidStrengths(PotError):
    """Not a list of strengths."""


class InvalidFraction(PotError):
    """Not a fraction."""


class InvalidCup(PotError):
    """Not a cup."""


class InvalidDeeds(PotError):
    """Not a list of deeds."""


class InvalidLiquid(PotError):
    """Not one of the liquids."""


class InvalidIndex(PotError):
    """Not one of the indices."""


class InvalidNumber(PotError):
    """An integer beyond its limits."""


class TooMany(PotError):
    """More results than are told."""


class NothingToUndo(PotError):
    """No call is left that could be undone."""


class InvalidText(PotError):
    """Not the text of a value; place is the number of the word where reading ends."""

    def __init__(self, place):
        self.place = place
