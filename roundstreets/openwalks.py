"""Open walks: through all crossings once, from (0, 0) on, wherever they end."""

from roundstreets.towns import ends, is_pair, is_whole, order


def open_walk(town):
    """Return a tuple of all crossings, from (0, 0) on, each next one led to by a street, None without any."""
    if not is_whole(town):
        return None
    # The first street alone leads through so many crossings before it comes back. Moved by the second step,
    # these are all new ones, until everything has been come to.
    many = order(town, town[2])
    found = [(0, 0)]
    for gone in range(1, town[0] * town[1]):
        by_first, by_second = ends(town, found[-1])
        found.append(by_second if gone % many == 0 else by_first)
    return tuple(found)


def is_open_walk(town, value):
    """Tell whether the value goes along streets through all crossings, from (0, 0) on."""
    width, height = town[0], town[1]
    if not isinstance(value, tuple) or len(value) != width * height:
        return False
    if not all([is_pair(crossing, width, height) for crossing in value]):
        return False
    if value[0] != (0, 0) or len(set(value)) != len(value):
        return False
    return all([there in ends(town, here) for here, there in zip(value, value[1:])])


def shows_open_walk(town, value):
    """Tell whether open_walk may return the value for the town."""
    if not is_whole(town):
        return value is None
    return is_open_walk(town, value)
