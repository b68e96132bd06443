"""Towns: what is one, where its streets lead, and its lots."""

from math import gcd, lcm

from roundstreets.errors import BadCrossing, BadTown, NotWhole

LONGEST_SIDE = 12


def is_number(value, low, high):
    """Tell whether the value is an integer from low to high."""
    # Python counts True and False as integers, the document does not.
    return isinstance(value, int) and not isinstance(value, bool) and low <= value <= high


def is_pair(value, width, height):
    """Tell whether the value is a crossing of a town with these sides."""
    if not isinstance(value, tuple) or len(value) != 2:
        return False
    return is_number(value[0], 0, width - 1) and is_number(value[1], 0, height - 1)


def are_sides(width, height):
    """Tell whether a town can have these sides."""
    if not is_number(width, 1, LONGEST_SIDE) or not is_number(height, 1, LONGEST_SIDE):
        return False
    return width > 1 or height > 1


def wrong_part(value):
    """Return the word for what keeps the value from being a town, None for a town."""
    if not isinstance(value, tuple) or len(value) != 4:
        return "whole"
    width, height, first, second = value
    if not are_sides(width, height):
        return "sides"
    if not is_pair(first, width, height) or not is_pair(second, width, height):
        return "steps"
    if first == second:
        return "steps"
    return None


def check_town(town):
    """Raise BadTown unless the value is a town."""
    part = wrong_part(town)
    if part is not None:
        raise BadTown(part)


def check_whole(town):
    """Raise BadTown or NotWhole unless the value is a whole town."""
    if not is_whole(town):
        raise NotWhole("streets do not lead from each crossing to each")


def check_crossing(town, crossing):
    """Raise BadCrossing unless the value is a crossing of the town."""
    if not is_pair(crossing, town[0], town[1]):
        raise BadCrossing("not a crossing of the town")


def crossings(town):
    """Return the ascending list of all crossings of a town."""
    return [(x, y) for x in range(town[0]) for y in range(town[1])]


def added(town, one, other):
    """Return the sum of two crossings of a town."""
    return ((one[0] + other[0]) % town[0], (one[1] + other[1]) % town[1])


def steps_difference(town):
    """Return the first step less the second one."""
    width, height, first, second = town
    return ((first[0] - second[0]) % width, (first[1] - second[1]) % height)


def is_town(value):
    """Tell whether the value is a town."""
    return wrong_part(value) is None


def ends(town, crossing):
    """Return the pair of the crossings to which the two streets from a crossing lead."""
    check_town(town)
    check_crossing(town, crossing)
    return (added(town, crossing, town[2]), added(town, crossing, town[3]))


def order(town, crossing):
    """Return how many times the crossing must be added to (0, 0) to come there again."""
    check_town(town)
    check_crossing(town, crossing)
    width, height = town[0], town[1]
    return lcm(width // gcd(width, crossing[0]), height // gcd(height, crossing[1]))


def is_whole(town):
    """Tell whether streets lead from each crossing of the town to each."""
    check_town(town)
    # The steps are the same everywhere: what can be come to from (0, 0) tells all.
    reached = {(0, 0): True}
    waiting = [(0, 0)]
    while waiting:
        crossing = waiting.pop()
        for end in ends(town, crossing):
            if end not in reached:
                reached[end] = True
                waiting.append(end)
    return len(reached) == town[0] * town[1]


def lot_from(town, start):
    """Return the list of the crossings of the lot in which a crossing is, from it on."""
    difference = steps_difference(town)
    found = [start]
    crossing = added(town, start, difference)
    while crossing != start:
        found.append(crossing)
        crossing = added(town, crossing, difference)
    return found


def lots(town):
    """Return the ascending tuple of all lots of the town."""
    check_town(town)
    found = []
    taken = {}
    for start in crossings(town):
        if start not in taken:
            lot = lot_from(town, start)
            found.append(tuple(sorted(lot)))
            for crossing in lot:
                taken[crossing] = True
    return tuple(found)


def count_lots(town):
    """Return how many lots a town has."""
    # Each lot has as many crossings as the steps' difference has multiples.
    return town[0] * town[1] // order(town, steps_difference(town))
