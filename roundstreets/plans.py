"""Plans: a street chosen at each crossing, by which each one is entered just once."""

from math import comb

from roundstreets.errors import BadChoice, BadTable
from roundstreets.towns import (
    added,
    check_town,
    check_whole,
    count_lots,
    crossings,
    ends,
    is_number,
    lots,
    order,
    steps_difference,
)


def check_table(town, streets):
    """Raise BadTable unless the value is a tuple of a street for each crossing."""
    if not isinstance(streets, tuple) or len(streets) != town[0] * town[1]:
        raise BadTable("not a tuple of a street for each crossing")
    if not all([is_number(street, 1, 2) for street in streets]):
        raise BadTable("a street is not 1 or 2")


def check_choice(town, chosen):
    """Raise BadChoice unless the value is an ascending tuple of numbers of lots."""
    if not isinstance(chosen, tuple):
        raise BadChoice("not a tuple")
    last = count_lots(town) - 1
    lowest = 0
    for number in chosen:
        if not is_number(number, lowest, last):
            raise BadChoice("not ascending numbers of lots")
        lowest = number + 1


def is_plan(town, streets):
    """Tell whether each crossing is entered just once by these streets."""
    check_town(town)
    check_table(town, streets)
    street_at = {crossing: street for crossing, street in zip(crossings(town), streets)}
    for lot in lots(town):
        if len({street_at[crossing] for crossing in lot}) > 1:
            return False
    return True


def table(town, chosen):
    """Return the streets of the plan in which the chosen lots take the first one."""
    check_town(town)
    check_choice(town, chosen)
    street_at = {}
    for number, lot in enumerate(lots(town)):
        for crossing in lot:
            street_at[crossing] = 1 if number in chosen else 2
    return tuple([street_at[crossing] for crossing in crossings(town)])


def ring_from(following, start):
    """Return the tuple of the crossings of the ring that goes through a crossing, from it on."""
    found = [start]
    crossing = following[start]
    while crossing != start:
        found.append(crossing)
        crossing = following[crossing]
    return tuple(found)


def rings(town, chosen):
    """Return the ascending tuple of the rings of a plan, each from its least crossing on."""
    streets = table(town, chosen)
    following = {}
    for crossing, street in zip(crossings(town), streets):
        following[crossing] = ends(town, crossing)[street - 1]
    found = []
    taken = {}
    for start in crossings(town):
        if start not in taken:
            ring = ring_from(following, start)
            found.append(ring)
            for crossing in ring:
                taken[crossing] = True
    return tuple(found)


def count_plans(town):
    """Return how many plans there are."""
    check_town(town)
    return 1 << count_lots(town)


def multiple(town, crossing, times):
    """Return what a crossing of a town, taken so many times, adds up to."""
    return (times * crossing[0] % town[0], times * crossing[1] % town[1])


def rings_made(town, many):
    """Return how many rings a plan of a whole town has if so many lots take the first street."""
    # A ring goes through all lots in turn and comes back to each one moved by this sum.
    moved = added(
        town,
        multiple(town, town[2], many),
        multiple(town, town[3], count_lots(town) - many),
    )
    return order(town, steps_difference(town)) // order(town, moved)


def plans_by_rings(town):
    """Return the ascending tuple of the pairs of a number of rings and how many plans have it."""
    check_whole(town)
    most = count_lots(town)
    plans = {}
    for many in range(most + 1):
        made = rings_made(town, many)
        plans[made] = plans.get(made, 0) + comb(most, many)
    return tuple([(made, plans[made]) for made in sorted(plans)])
