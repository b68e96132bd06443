"""Walkers: somebody who takes streets of a town, and takes them back."""

from roundstreets.errors import BadNumber, NoStep
from roundstreets.towns import check_town, ends, is_number


class Walker:
    """Somebody who starts at (0, 0)."""

    def __init__(self, town):
        check_town(town)
        self._town = town
        self._streets = []
        self._path = [(0, 0)]

    @property
    def streets(self):
        """The tuple of the streets taken."""
        return tuple(self._streets)

    @property
    def path(self):
        """The tuple of the crossings come to, (0, 0) and the last one among them."""
        return tuple(self._path)

    def go(self, street):
        """Take the first or the second street, 1 or 2."""
        if not is_number(street, 1, 2):
            raise BadNumber("a street is not 1 or 2")
        end = ends(self._town, self._path[-1])[street - 1]
        self._streets.append(street)
        self._path.append(end)

    def undo(self):
        """Take the last street back."""
        if not self._streets:
            raise NoStep("no street has been taken")
        self._streets.pop()
        self._path.pop()

    def missing(self):
        """Return how many crossings have not been come to."""
        return self._town[0] * self._town[1] - len(set(self._path))
