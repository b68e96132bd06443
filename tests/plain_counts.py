"""Counts of towns by plain trying out, apart from the program; for tests only."""

from itertools import permutations, product


def all_crossings(width, height):
    return list(product(range(width), range(height)))


def all_towns(width, height):
    """Every town with these sides."""
    pairs = permutations(all_crossings(width, height), 2)
    return [(width, height, first, second) for first, second in pairs]


def towns_up_to(crossings):
    """Every town that has at most so many crossings."""
    sides = [(width, height) for width in range(1, 13) for height in range(1, 13)]
    return [
        town
        for width, height in sides
        if 1 < width * height <= crossings
        for town in all_towns(width, height)
    ]


def led_to(town, crossing, street):
    """The crossing to which a street, 1 or 2, leads."""
    width, height, first, second = town
    step = first if street == 1 else second
    return ((crossing[0] + step[0]) % width, (crossing[1] + step[1]) % height)


def reached_from(town, start):
    """All crossings to which streets lead from one."""
    reached = {start}
    waiting = [start]
    while waiting:
        here = waiting.pop(0)
        for street in (1, 2):
            there = led_to(town, here, street)
            if there not in reached:
                reached.add(there)
                waiting.append(there)
    return reached


def leads_everywhere(town):
    """Whether streets lead from each crossing to each, looked at from each one."""
    crossings = all_crossings(town[0], town[1])
    return all(reached_from(town, start) == set(crossings) for start in crossings)


def plain_order(town, crossing):
    times, x, y = 1, crossing[0], crossing[1]
    while (x % town[0], y % town[1]) != (0, 0):
        times, x, y = times + 1, x + crossing[0], y + crossing[1]
    return times


def plain_lots(town):
    width, height, first, second = town
    found = set()
    for x, y in all_crossings(width, height):
        lot = {
            ((x + k * (first[0] - second[0])) % width, (y + k * (first[1] - second[1])) % height)
            for k in range(width * height)
        }
        found.add(tuple(sorted(lot)))
    return tuple(sorted(found))


def all_tables(town):
    """Every choice of a street at each crossing, a plan or not."""
    return list(product((1, 2), repeat=town[0] * town[1]))


def entered_once(town, streets):
    """Whether each crossing is entered just once."""
    crossings = all_crossings(town[0], town[1])
    entered = [led_to(town, here, street) for here, street in zip(crossings, streets)]
    return sorted(entered) == crossings


def all_plans(town):
    return [streets for streets in all_tables(town) if entered_once(town, streets)]


def plain_rings(town, streets):
    """The rings of a plan, each from its least crossing on, ascending."""
    crossings = all_crossings(town[0], town[1])
    after = {here: led_to(town, here, street) for here, street in zip(crossings, streets)}
    found = []
    while after:
        here = min(after)
        ring = []
        while here in after:
            ring.append(here)
            here = after.pop(here)
        found.append(tuple(ring))
    return tuple(found)


def lots_on_first(town, streets):
    """The numbers of the lots that take the first street in a plan."""
    crossings = all_crossings(town[0], town[1])
    street_at = dict(zip(crossings, streets))
    numbered = enumerate(plain_lots(town))
    return tuple(number for number, lot in numbered if street_at[lot[0]] == 1)


def goes_along(town, walk):
    """Whether a tuple of crossings goes along streets through all of them, from (0, 0) on."""
    if sorted(walk) != all_crossings(town[0], town[1]) or walk[0] != (0, 0):
        return False
    return all(
        there in (led_to(town, here, 1), led_to(town, here, 2)) for here, there in zip(walk, walk[1:])
    )


def goes_round(town, trip):
    """Whether a tuple of crossings goes along streets through all of them and back."""
    return goes_along(town, trip) and (0, 0) in (led_to(town, trip[-1], 1), led_to(town, trip[-1], 2))


def plain_walks(town):
    """Every open walk of a town, by walking on wherever a crossing is still new."""
    finished = []
    waiting = [((0, 0),)]
    while waiting:
        path = waiting.pop()
        if len(path) == town[0] * town[1]:
            finished.append(path)
        for street in (1, 2):
            there = led_to(town, path[-1], street)
            if there not in path:
                waiting.append(path + (there,))
    return finished


def plain_trips(town):
    """Every round trip of a town: an open walk from whose end a street leads back."""
    return [path for path in plain_walks(town) if goes_round(town, path)]
