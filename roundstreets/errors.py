"""The errors of the package."""


class TownError(ValueError):
    """The base class of all errors of the package."""


class BadTown(TownError):
    """A value is not a town; part is "whole", "sides" or "steps"."""

    def __init__(self, part):
        super().__init__(f"not a town, wrong: {part}")
        self.part = part


class BadCrossing(TownError):
    """A value is not a crossing of the town."""


class BadTable(TownError):
    """A value is not a street for each crossing of the town."""


class BadChoice(TownError):
    """A value is not an ascending tuple of numbers of lots."""


class BadNumber(TownError):
    """A value is not an integer within its limits."""


class NotWhole(TownError):
    """A town is not whole where only a whole one will do."""


class NoStep(TownError):
    """There is no step to take back."""


class BadText(TownError):
    """A value is not a string."""


class BadLine(TownError):
    """A word cannot stand in a text, or is lacking; line and word are counted from 1."""

    def __init__(self, line, word):
        super().__init__(f"line {line}, word {word} cannot stand or is lacking")
        self.line = line
        self.word = word
