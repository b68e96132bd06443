"""Grids: towns with the streets east and north, and how many of their lots take which in rounds."""

from math import gcd

from roundstreets.errors import BadNumber
from roundstreets.towns import LONGEST_SIDE, are_sides, is_number


def check_sides(width, height):
    """Raise BadNumber unless a town can have these sides."""
    if not are_sides(width, height):
        raise BadNumber("not two integers from 1 to 12, not both 1")


def grid(width, height):
    """Return the town of these sides with the steps (1, 0) and (0, 1)."""
    check_sides(width, height)
    # On a side of 1 a step along it leads back to its own crossing.
    return (width, height, (1 % width, 0), (0, 1 % height))


def shares(width, height):
    """Return the ascending tuple of how many lots of a grid go east and how many north in rounds."""
    check_sides(width, height)
    many = gcd(width, height)
    return tuple([
        (east, many - east)
        for east in range(many + 1)
        if gcd(east, width) == 1 and gcd(many - east, height) == 1
    ])


def round_grids(most):
    """Return the ascending tuple of the sides, up to the most, of the grids that have a round."""
    if not is_number(most, 1, LONGEST_SIDE):
        raise BadNumber("not an integer from 1 to 12")
    return tuple([
        (width, height)
        for width in range(1, most + 1)
        for height in range(1, most + 1)
        if are_sides(width, height) and shares(width, height) != ()
    ])
