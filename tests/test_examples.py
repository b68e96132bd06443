"""The examples of the document's interface, as they stand."""

import unittest

from roundstreets.errors import BadChoice, BadLine, BadNumber, BadTown, NotWhole
from roundstreets.grids import grid, round_grids, shares
from roundstreets.openwalks import open_walk, shows_open_walk
from roundstreets.plans import count_plans, is_plan, plans_by_rings, rings, table
from roundstreets.rounds import count_rings, count_rounds, numbers, round_trip, shows_round_trip
from roundstreets.towns import ends, is_whole, lots, order
from roundstreets.towntexts import read_town, write_town
from roundstreets.walkers import Walker


class Examples(unittest.TestCase):
    def test_towns(self):
        two = (2, 2, (1, 0), (0, 1))
        self.assertEqual(
            [ends(two, (1, 1)), order(two, (1, 1)), lots(two), is_whole(two), is_whole((4, 1, (2, 0), (0, 0)))],
            [((0, 1), (1, 0)), 2, (((0, 0), (1, 1)), ((0, 1), (1, 0))), True, False],
        )

    def test_towns_error(self):
        with self.assertRaises(BadTown) as caught:
            lots((2, 2, (0, 1), (0, 1)))
        self.assertEqual(caught.exception.part, "steps")

    def test_plans(self):
        two = (2, 2, (1, 0), (0, 1))
        self.assertEqual(
            [
                table(two, (0,)), rings(two, (0,)), rings(two, ()), is_plan(two, (1, 2, 1, 2)),
                count_plans(two), plans_by_rings(two),
            ],
            [
                (1, 2, 2, 1), (((0, 0), (1, 0), (1, 1), (0, 1)),), (((0, 0), (0, 1)), ((1, 0), (1, 1))), False,
                4, ((1, 2), (2, 2)),
            ],
        )

    def test_plans_error(self):
        with self.assertRaises(BadChoice):
            table((2, 2, (1, 0), (0, 1)), (2,))

    def test_rounds(self):
        two, six = (2, 2, (1, 0), (0, 1)), (6, 1, (2, 0), (3, 0))
        self.assertEqual(
            [
                numbers(two), count_rounds(two), shows_round_trip(two, round_trip(two)),
                [count_rings(six, many) for many in (0, 1)], numbers(six), round_trip(six),
            ],
            [(1,), 2, True, [3, 2], (), None],
        )

    def test_rounds_error(self):
        with self.assertRaises(NotWhole):
            count_rings((4, 1, (2, 0), (0, 0)), 0)

    def test_grids(self):
        self.assertEqual(
            [grid(2, 3), shares(3, 3), shares(2, 3), shares(6, 6), round_grids(3)],
            [
                (2, 3, (1, 0), (0, 1)), ((1, 2), (2, 1)), (), ((1, 5), (5, 1)),
                ((1, 2), (1, 3), (2, 1), (2, 2), (3, 1), (3, 3)),
            ],
        )

    def test_grids_error(self):
        with self.assertRaises(BadNumber):
            grid(1, 1)

    def test_openwalks(self):
        six = (6, 1, (2, 0), (3, 0))
        self.assertEqual(
            [
                shows_open_walk(six, open_walk(six)),
                shows_open_walk(six, tuple([(place, 0) for place in (0, 2, 4, 1, 3, 5)])),
                open_walk((4, 1, (2, 0), (0, 0))),
            ],
            [True, True, None],
        )

    def test_walkers(self):
        walker = Walker((2, 2, (1, 0), (0, 1)))
        self.assertEqual(
            [walker.go(1), walker.go(2), walker.path, walker.missing(), walker.undo(), walker.streets],
            [None, None, ((0, 0), (1, 0), (1, 1)), 1, None, (1,)],
        )

    def test_walkers_error(self):
        with self.assertRaises(BadTown) as caught:
            Walker((1, 1, (0, 0), (0, 0)))
        self.assertEqual(caught.exception.part, "sides")

    def test_towntexts(self):
        self.assertEqual(
            [write_town((2, 3, (1, 0), (0, 2))), read_town("town 2 1\nfirst 1 0\nsecond 0 0")],
            ["town 2 3\nfirst 1 0\nsecond 0 2", (2, 1, (1, 0), (0, 0))],
        )

    def test_towntexts_error(self):
        with self.assertRaises(BadLine) as caught:
            read_town("town 1 1")
        self.assertEqual([caught.exception.line, caught.exception.word], [1, 3])
