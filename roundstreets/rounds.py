"""Rounds: plans with one ring, which goes through all crossings."""

from math import comb

from roundstreets.errors import BadNumber
from roundstreets.openwalks import is_open_walk
from roundstreets.plans import rings, rings_made
from roundstreets.towns import check_town, check_whole, count_lots, ends, is_number, is_whole


def count_rings(town, many):
    """Return how many rings any plan has in which so many lots take the first street."""
    check_whole(town)
    if not is_number(many, 0, count_lots(town)):
        raise BadNumber("not an integer from 0 to the number of lots")
    return rings_made(town, many)


def numbers(town):
    """Return the ascending tuple of how many lots may take the first street in a round."""
    check_town(town)
    if not is_whole(town):
        return ()
    return tuple([many for many in range(count_lots(town) + 1) if rings_made(town, many) == 1])


def count_rounds(town):
    """Return how many rounds there are."""
    possible = numbers(town)
    most = count_lots(town)
    return sum([comb(most, many) for many in possible])


def round_trip(town):
    """Return a tuple of all crossings, from (0, 0) round to it again, None without any."""
    possible = numbers(town)
    if not possible:
        return None
    # Which lots they are makes no difference to the number of rings.
    chosen = tuple(range(possible[0]))
    return rings(town, chosen)[0]


def is_round_trip(town, value):
    """Tell whether the value goes along streets through all crossings and back to (0, 0)."""
    return is_open_walk(town, value) and (0, 0) in ends(town, value[-1])


def shows_round_trip(town, value):
    """Tell whether round_trip may return the value for the town."""
    if not numbers(town):
        return value is None
    return is_round_trip(town, value)
