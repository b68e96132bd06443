"""Values that are not what a function asks for; for tests only."""

HUGE = 10 ** 5000


def nested(depth):
    value = ()
    for _ in range(depth):
        value = (value,)
    return value


# Values of each kind that no argument may be, but for a string as a text and None as what is shown.
OTHER_KINDS = [
    "", "town", "ab", "12", True, False, None, [], [1, 2], {}, {0: 1}, {(0, 0): 1}, -1, HUGE, -HUGE, nested(5000),
]

# No tuples of four values.
NOT_FOUR = OTHER_KINDS + [
    0, 2, (), (2,), (2, 2), (2, 2, (1, 0)), (2, 2, (1, 0), (0, 1), (1, 1)), (2, 2, (1, 0), (0, 1), None),
    [2, 2, (1, 0), (0, 1)], {0: 2, 1: 2, 2: (1, 0), 3: (0, 1)}, ((2, 2, (1, 0), (0, 1)),), "2210",
    (2, 2, 1, 0, 0, 1), ((2, 2), (1, 0), (0, 1)),
]

# No sides, no crossings of a town with the sides 2 and 3.
NOT_SIDES = [0, 13, 14, 100, True, False, None, "2", "", (), (2,), [2], [], {}, {2: 2}, -1, -2, HUGE, -HUGE]
NOT_SIDES += [nested(5000), ((2,),), [[2]], (2, 2), [2, 2], "12", "x"]
NOT_CROSSINGS_2_3 = OTHER_KINDS + [
    0, 1, (), (0,), (0, 0, 0), [0, 0], [1, 0], {0: 0, 1: 0}, "00", ((0, 0),), ((0, 0), (0, 0)),
    (True, 0), (0, True), (False, 0), (0, False), ("1", 0), (0, "1"), (None, 0), (0, None),
    ((1,), 0), (0, (1,)), ([1], 0), (0, [1]), ({}, 0), (0, {}), (nested(5000), 0), (0, nested(5000)),
    (-1, 0), (0, -1), (2, 0), (0, 3), (2, 2), (3, 1), (HUGE, 0), (0, HUGE), (-HUGE, 0), (0, -HUGE),
]


def bad_towns():
    """The pairs of the word for what is wrong and a value that is not a town."""
    found = [("whole", value) for value in NOT_FOUR]
    for side in NOT_SIDES:
        found.append(("sides", (side, 2, (0, 0), (0, 1))))
        found.append(("sides", (2, side, (0, 0), (1, 0))))
        found.append(("sides", (side, side, (0, 0), (1, 0))))
    found.append(("sides", (1, 1, (0, 0), (0, 0))))
    for step in NOT_CROSSINGS_2_3:
        found.append(("steps", (2, 3, step, (0, 1))))
        found.append(("steps", (2, 3, (0, 1), step)))
        found.append(("steps", (2, 3, step, step)))
    found.append(("steps", (2, 3, (0, 0), (0, 0))))
    found.append(("steps", (2, 3, (1, 2), (1, 2))))
    return found


# A whole town with three lots of two crossings: (0, 0) and (1, 0), and so on.
LOTS_3 = (2, 3, (1, 1), (0, 1))

# Second arguments that are wrong for that town.
NOT_TABLES = OTHER_KINDS + [
    1, 2, 6, (), (1,), (1, 2, 1, 2, 1), (1, 2, 1, 2, 1, 2, 1), [1, 2, 1, 2, 1, 2], "121212",
    {0: 1, 1: 1, 2: 1, 3: 1, 4: 1, 5: 1}, ((1, 1, 1, 1, 1, 1),), ((1, 1, 1), (1, 1, 1)),
] + [
    tuple(wrong if at == place else 1 for at in range(6))
    for place in (0, 3, 5)
    for wrong in (0, 3, -1, HUGE, -HUGE, True, False, None, "1", "", (1,), [1], {}, nested(5000))
]

NOT_CHOICES = OTHER_KINDS + [
    0, 1, 2, 3, [0], [0, 1, 2], {1: 0}, "0", "012", (3,), (-1,), (-1, 0), (0, 3), (0, 1, 2, 3), (HUGE,), (-HUGE,),
    (0, 0), (1, 1), (0, 1, 1), (0, 0, 1), (1, 0), (2, 1), (0, 2, 1), (True,), (False,), (False, True), (0, True),
    (False, 1), (None,), ("0",), (0, "1"), ((0,),), ((),), (0, (1,)), ([0],), (0, []), ({},), (nested(5000),),
]

NOT_COUNTS_3 = OTHER_KINDS + [4, 5, 100, (), (0,), (0, 1), [0], "0", ((1,),), {1: 1}]

# No round trip and no open walk of any town.
NEVER_WALKS = [value for value in OTHER_KINDS if value is not None] + [
    0, 1, (), ((0, 0),), (0, 0), (None,), ("00",), [(0, 0), (1, 0)], {(0, 0): (1, 0)}, ((0, 0), (0, 0)),
    ((True, 0), (0, False)), ((0, 0), None), ((0, 0), (1,)), ((0, 0), [1, 0]), ((0, 0), (HUGE, HUGE)),
]

# No streets to take.
NOT_STREETS = OTHER_KINDS + [0, 3, 4, 100, "1", "2", (), (1,), (1, 2), [1], {1: 1}, ((1,),), ([1], 2)]

# No texts at all.
NOT_TEXTS = [value for value in OTHER_KINDS if not isinstance(value, str)] + [
    0, 1, 2, (), (1, 2), ("town 2 1",), ["town 2 1", "first 1 0", "second 0 0"], {"town": (2, 1)}, {"": ""},
    ("town", 2, 1), (2, 1, (1, 0), (0, 0)), [["town 2 1"]], (("town",),), [None], ("", [""]),
]

# Words that are no number within a town of any sides, wherever they stand.
NOT_NUMBER_WORDS = [
    "00", "01", "02", "03", "012", "0000000001", "+0", "+1", "+2", "-0", "-1", "--1", "1-", "1.", "1.0", ".1", "1e0",
    "0x1", "1_0", "1,", "(1", "one", "x", "town", "first", "second", "True", "None", "13", "99", "100",
    "9" * 5000, "-" + "9" * 5000, "0" * 5000, "1\t", "\t1", "\r", "\u0660", "\u0661", "\u0be7", "\uff11",
    "\u00b9", "\u2081", "\u00bd", "\u2460", "1\u0301", "\u06611", "\ud800",
]
