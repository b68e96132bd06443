"""Texts of towns: three lines, each a name and two numbers."""

from roundstreets.errors import BadLine, BadText
from roundstreets.towns import LONGEST_SIDE, check_town


def write_town(town):
    """Return the text of a town."""
    check_town(town)
    width, height, first, second = town
    return f"town {width} {height}\nfirst {first[0]} {first[1]}\nsecond {second[0]} {second[1]}"


def words_of(line):
    """Return the list of the words of a line."""
    # A split without a sign would take tabs and others for spaces, too.
    return [word for word in line.split(" ") if word != ""]


def numbered_lines(text):
    """Return the list of the numbers and words of three lines or more, without the void ones."""
    lines = text.split("\n")
    told = []
    for number, line in enumerate(lines, start=1):
        words = words_of(line)
        if words:
            told.append((number, words))
    # Lines that lack stand, without words, behind the last one.
    return told + [(len(lines) + 1, [])] * (3 - len(told))


def number_at(line, words, place, allowed):
    """Return the number, one of those that are allowed, that a line has as its word at a place."""
    # Only what a number is written as is read: no other zeros, signs or digits.
    written = [str(number) for number in allowed]
    if place > len(words) or words[place - 1] not in written:
        raise BadLine(line, place)
    return allowed[written.index(words[place - 1])]


def read_pair(told, name, allowed, barred):
    """Return the two numbers of a line, told by its number and words; they are not the barred pair."""
    line, words = told
    if words[:1] != [name]:
        raise BadLine(line, 1)
    x = number_at(line, words, 2, allowed[0])
    y = number_at(line, words, 3, [number for number in allowed[1] if (x, number) != barred])
    if len(words) > 3:
        raise BadLine(line, 4)
    return (x, y)


def read_town(text):
    """Return the town that a text tells."""
    if not isinstance(text, str):
        raise BadText("not a string")
    lines = numbered_lines(text)
    sides = list(range(1, LONGEST_SIDE + 1))
    width, height = read_pair(lines[0], "town", (sides, sides), (1, 1))
    places = (list(range(width)), list(range(height)))
    first = read_pair(lines[1], "first", places, None)
    second = read_pair(lines[2], "second", places, first)
    if len(lines) > 3:
        raise BadLine(lines[3][0], 1)
    return (width, height, first, second)
