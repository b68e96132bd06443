"""Point 1: wrong arguments, which error is raised, and that no argument is modified."""

import unittest

from wrong_values import (
    LOTS_3,
    NOT_CHOICES,
    NOT_COUNTS_3,
    NOT_CROSSINGS_2_3,
    NOT_SIDES,
    NOT_STREETS,
    NOT_TABLES,
    NOT_TEXTS,
    OTHER_KINDS,
    bad_towns,
)

from roundstreets.errors import BadChoice, BadCrossing, BadNumber, BadTable, BadText, BadTown, NotWhole, TownError
from roundstreets.grids import grid, round_grids, shares
from roundstreets.openwalks import open_walk, shows_open_walk
from roundstreets.plans import count_plans, is_plan, plans_by_rings, rings, table
from roundstreets.rounds import count_rings, count_rounds, numbers, round_trip, shows_round_trip
from roundstreets.towns import ends, is_town, is_whole, lots, order
from roundstreets.towntexts import read_town, write_town
from roundstreets.walkers import Walker

OF_A_TOWN = [
    is_whole, lots, count_plans, plans_by_rings, numbers, count_rounds, round_trip, open_walk, Walker, write_town,
]
# Their answers are any such values, or have a state of their own.
NOT_ALWAYS_EQUAL = [round_trip, open_walk, Walker]
SHOWING = [shows_round_trip, shows_open_walk]
# Each with the error for its second argument, and values that are wrong for LOTS_3.
OF_TWO = [
    (ends, BadCrossing, NOT_CROSSINGS_2_3),
    (order, BadCrossing, NOT_CROSSINGS_2_3),
    (is_plan, BadTable, NOT_TABLES),
    (table, BadChoice, NOT_CHOICES),
    (rings, BadChoice, NOT_CHOICES),
    (count_rings, BadNumber, NOT_COUNTS_3),
]
NOT_WHOLE = [(4, 1, (2, 0), (0, 0)), (12, 12, (2, 0), (0, 1)), (2, 2, (0, 0), (1, 1)), (6, 6, (1, 1), (2, 2))]


class WrongArguments(unittest.TestCase):
    def assert_raises_just(self, error, function, *arguments):
        with self.assertRaises(TownError) as caught:
            function(*arguments)
        self.assertIs(caught.exception.__class__, error, function.__name__)
        return caught.exception

    def assert_bad_town(self, part, function, *arguments):
        error = self.assert_raises_just(BadTown, function, *arguments)
        self.assertEqual(error.part, part, function.__name__)

    def test_a_wrong_town(self):
        for function in OF_A_TOWN:
            for part, town in bad_towns():
                self.assert_bad_town(part, function, town)

    def test_a_wrong_town_beside_a_right_argument(self):
        rights = [(0, 0), (0, 0), (1,) * 6, (0,), (0,), 1]
        for (function, _, _), right in zip(OF_TWO, rights):
            for part, town in bad_towns():
                self.assert_bad_town(part, function, town, right)
        for part, town in bad_towns():
            for function in SHOWING:
                self.assert_bad_town(part, function, town, None)

    def test_a_wrong_second_argument(self):
        for function, error, values in OF_TWO:
            for value in values:
                self.assert_raises_just(error, function, LOTS_3, value)

    def test_both_wrong(self):
        for function, _, values in OF_TWO:
            for part, town in bad_towns():
                for value in values[::7]:
                    self.assert_bad_town(part, function, town, value)
        for part, town in bad_towns():
            for value in OTHER_KINDS:
                for function in SHOWING:
                    self.assert_bad_town(part, function, town, value)

    def test_not_whole(self):
        for town in NOT_WHOLE:
            self.assert_raises_just(NotWhole, plans_by_rings, town)
            self.assert_raises_just(NotWhole, count_rings, town, 0)
            for value in NOT_COUNTS_3:
                self.assert_raises_just(NotWhole, count_rings, town, value)

    def test_bad_town_before_not_whole(self):
        self.assert_bad_town("steps", plans_by_rings, (4, 1, (0, 0), (0, 0)))
        self.assert_bad_town("sides", count_rings, (14, 1, (2, 0), (0, 0)), 0)

    def test_only_two_functions_ask_for_a_whole_town(self):
        town = (4, 1, (2, 0), (0, 0))
        for function in OF_A_TOWN:
            if function is not plans_by_rings:
                function(town)
        for function, right in [(ends, (0, 0)), (order, (0, 0)), (is_plan, (1,) * 4), (table, ()), (rings, ())]:
            function(town, right)
        for function in SHOWING:
            function(town, None)

    def test_wrong_sides_of_grids(self):
        for function in (grid, shares):
            for side in NOT_SIDES:
                self.assert_raises_just(BadNumber, function, side, 2)
                self.assert_raises_just(BadNumber, function, 2, side)
                self.assert_raises_just(BadNumber, function, 1, side)
                self.assert_raises_just(BadNumber, function, side, 1)
                for other in NOT_SIDES[::3]:
                    self.assert_raises_just(BadNumber, function, side, other)
            self.assert_raises_just(BadNumber, function, 1, 1)

    def test_a_wrong_most_side_of_grids(self):
        for most in NOT_SIDES:
            self.assert_raises_just(BadNumber, round_grids, most)

    def test_a_wrong_text(self):
        for value in NOT_TEXTS:
            self.assert_raises_just(BadText, read_town, value)


class OrderOfWords(unittest.TestCase):
    def assert_part(self, part, town):
        with self.assertRaises(BadTown) as caught:
            lots(town)
        self.assertEqual(caught.exception.part, part, town)

    def test_whole_before_sides_and_steps(self):
        self.assert_part("whole", (0, 0, (0, 0)))
        self.assert_part("whole", (13, 2, (5, 5), (5, 5), 1))
        self.assert_part("whole", [13, 2, (5, 5), (5, 5)])
        self.assert_part("whole", (2, 2, (1, 0)))

    def test_sides_before_steps(self):
        self.assert_part("sides", (2, 13, (5, 5), (5, 5)))
        self.assert_part("sides", (2, True, None, None))
        self.assert_part("sides", ("2", 2, (0, 0), (0, 0)))
        self.assert_part("sides", (1, 1, (0, 0), (0, 0)))
        self.assert_part("sides", (1, 1, "", (3, 3)))

    def test_a_wrong_second_side_or_step_alone(self):
        self.assert_part("sides", (2, 0, (1, 0), (0, 0)))
        self.assert_part("steps", (2, 2, (1, 0), (2, 0)))
        self.assert_part("steps", (2, 2, (0, 2), (1, 0)))
        self.assert_part("steps", (2, 2, (1, 1), (1, 1)))


class Limits(unittest.TestCase):
    def test_numbers_of_rings_within_and_beyond(self):
        for town, last in [((2, 2, (1, 0), (0, 1)), 2), ((6, 1, (2, 0), (3, 0)), 1), ((12, 12, (1, 0), (0, 1)), 12)]:
            count_rings(town, 0)
            count_rings(town, last)
            for many in (-1, last + 1):
                with self.assertRaises(BadNumber):
                    count_rings(town, many)

    def test_choices_within_and_beyond(self):
        for town, last in [((12, 12, (6, 0), (0, 0)), 71), ((6, 1, (2, 0), (3, 0)), 0)]:
            table(town, (last,))
            table(town, tuple(range(last + 1)))
            for chosen in [(last + 1,), tuple(range(last + 2)), (-1,)]:
                with self.assertRaises(BadChoice):
                    table(town, chosen)

    def test_tables_of_the_longest_sides(self):
        town = (12, 12, (1, 0), (0, 1))
        is_plan(town, (1,) * 144)
        for length in (0, 143, 145):
            with self.assertRaises(BadTable):
                is_plan(town, (1,) * length)

    def test_crossings_of_each_side(self):
        town = (5, 2, (1, 0), (0, 1))
        for function in (ends, order):
            function(town, (4, 1))
            for crossing in [(5, 0), (0, 2), (1, 4), (-1, 0)]:
                with self.assertRaises(BadCrossing):
                    function(town, crossing)


class Unmodified(unittest.TestCase):
    def call(self, function, *arguments):
        before = copied(arguments)
        try:
            function(*arguments)
        except TownError:
            pass
        self.assertTrue(same(before, arguments), function.__name__)

    def test_right_arguments(self):
        town = (2, 3, (1, 1), (0, 1))
        for function in [is_town, *OF_A_TOWN]:
            self.call(function, town)
        rights = [(1, 2), (1, 2), (1, 2, 1, 1, 2, 1), (0, 2), (0, 2), 2]
        for (function, _, _), right in zip(OF_TWO, rights):
            self.call(function, town, right)
        for function in SHOWING:
            self.call(function, town, round_trip(town))
        self.call(grid, 2, 3)
        self.call(shares, 6, 6)
        self.call(round_grids, 4)
        self.call(read_town, write_town(town))

    def test_wrong_towns(self):
        for _, town in bad_towns():
            for function in [is_town, *OF_A_TOWN]:
                self.call(function, town)
            for function in [*SHOWING, *[row[0] for row in OF_TWO]]:
                self.call(function, town, [1, 2])

    def test_wrong_second_arguments(self):
        for function, _, values in OF_TWO:
            for value in values:
                self.call(function, LOTS_3, value)
        for value in [[(0, 0), (1, 0)], [[0, 0]], {(0, 0): [1]}, ([0, 0], [1, 0]), [3, 1, 2], {}]:
            for function in SHOWING:
                self.call(function, (2, 1, (1, 0), (0, 0)), value)

    def test_wrong_sides_and_texts(self):
        for side in NOT_SIDES:
            for function in (grid, shares):
                self.call(function, side, [side])
                self.call(function, 2, side)
            self.call(round_grids, side)
        for value in NOT_TEXTS:
            self.call(read_town, value)

    def test_what_a_walker_is_passed(self):
        town = (2, 3, (1, 1), (0, 1))
        before = copied(town)
        walker = Walker(town)
        walker.go(1)
        walker.undo()
        for street in NOT_STREETS:
            self.call(walker.go, street)
        self.assertTrue(same(before, town))


def copied(value):
    """A copy that shares no list or dict with the value."""
    if isinstance(value, tuple):
        return value if deep(value) else tuple(copied(item) for item in value)
    if isinstance(value, list):
        return [copied(item) for item in value]
    if isinstance(value, dict):
        return {key: copied(item) for key, item in value.items()}
    return value


def deep(value):
    """Whether a tuple is one of the long chains of tuples, which hold nothing to modify."""
    depth = 0
    while isinstance(value, tuple) and len(value) == 1 and depth < 100:
        value = value[0]
        depth += 1
    return depth == 100


def same(one, other):
    if one is other:
        return True
    if one.__class__ is not other.__class__:
        return False
    if isinstance(one, (tuple, list)):
        return len(one) == len(other) and all(same(a, b) for a, b in zip(one, other))
    if isinstance(one, dict):
        return list(one) == list(other) and all(same(one[key], other[key]) for key in one)
    return one == other


class SameAnswers(unittest.TestCase):
    def test_equal_arguments_have_equal_answers(self):
        for town in [(2, 2, (1, 0), (0, 1)), (12, 12, (1, 0), (0, 1)), (6, 1, (2, 0), (3, 0))]:
            for function in [is_town, *OF_A_TOWN]:
                if function not in NOT_ALWAYS_EQUAL:
                    again = (*town[:2], tuple(list(town[2])), tuple(list(town[3])))
                    self.assertEqual(function(town), function(again))

    def test_equal_numbers_and_texts_have_equal_answers(self):
        self.assertEqual(grid(12, 6), grid(12, 6))
        self.assertEqual(shares(12, 6), shares(12, 6))
        self.assertEqual(round_grids(12), round_grids(12))
        text = "town 2 3\nfirst 1 1\nsecond 0 1"
        self.assertEqual(read_town(text), read_town("".join(list(text))))

    def test_answers_hold_plain_integers_only(self):
        town = (2, 3, (1, 1), (0, 1))
        walker = Walker(town)
        walker.go(2)
        answers = [
            ends(town, (1, 2)), order(town, (1, 2)), lots(town), table(town, (0,)), rings(town, (0,)),
            count_plans(town), plans_by_rings(town), numbers(town), count_rings(town, 1), count_rounds(town),
            round_trip(town), grid(2, 3), shares(6, 6), round_grids(3), open_walk(town), walker.streets, walker.path,
            walker.missing(), read_town(write_town(town)),
        ]
        while answers:
            answer = answers.pop()
            self.assertIn(answer.__class__, (int, tuple))
            if isinstance(answer, tuple):
                answers.extend(answer)
