"""The examples of the document's interface, as they stand."""

import unittest

from roundstreets.errors import BadChoice, BadTown, NotWhole
from roundstreets.plans import count_plans, is_plan, plans_by_rings, rings, table
from roundstreets.rounds import count_rings, count_rounds, numbers, round_trip, shows_round_trip
from roundstreets.towns import ends, is_whole, lots, order


class Examples(unittest.TestCase):
    def test_towns(self):
        two = (2, 2, (1, 0), (0, 1))
        self.assertEqual(
            [ends(two, (1, 1)), order(two, (1, 1)), lots(two), is_whole(two), is_whole((4, 1, (2, 0), (0, 0)))],
            [((0, 1), (1, 0)), 2, (((0, 0), (1, 1)), ((0, 1), (1, 0))), True, False],
        )

    def test_towns_error(self):
        with self.assertRaises(BadTown) as caught:
            lots((2, 2, (0, 1), (0, 1)))
        self.assertEqual(caught.exception.part, "steps")

    def test_plans(self):
        two = (2, 2, (1, 0), (0, 1))
        self.assertEqual(
            [
                table(two, (0,)), rings(two, (0,)), rings(two, ()), is_plan(two, (1, 2, 1, 2)),
                count_plans(two), plans_by_rings(two),
            ],
            [
                (1, 2, 2, 1), (((0, 0), (1, 0), (1, 1), (0, 1)),), (((0, 0), (0, 1)), ((1, 0), (1, 1))), False,
                4, ((1, 2), (2, 2)),
            ],
        )

    def test_plans_error(self):
        with self.assertRaises(BadChoice):
            table((2, 2, (1, 0), (0, 1)), (2,))

    def test_rounds(self):
        two, six = (2, 2, (1, 0), (0, 1)), (6, 1, (2, 0), (3, 0))
        self.assertEqual(
            [
                numbers(two), count_rounds(two), shows_round_trip(two, round_trip(two)),
                [count_rings(six, many) for many in (0, 1)], numbers(six), round_trip(six),
            ],
            [(1,), 2, True, [3, 2], (), None],
        )

    def test_rounds_error(self):
        with self.assertRaises(NotWhole):
            count_rings((4, 1, (2, 0), (0, 0)), 0)
