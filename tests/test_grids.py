"""Point 7: grids, their shares, and which have a round."""

import unittest
from math import comb, gcd

from plain_counts import plain_trips

from roundstreets.errors import BadNumber
from roundstreets.grids import grid, round_grids, shares
from roundstreets.rounds import count_rounds, numbers, round_trip
from roundstreets.towns import is_town, is_whole, lots

ALL_SIDES = [(width, height) for width in range(1, 13) for height in range(1, 13) if width + height > 2]


def plain_divisors(number, most=12):
    """The divisors up to the most; 0 has all."""
    return {divisor for divisor in range(1, most + 1) if number % divisor == 0}


def plain_shares(width, height):
    """The shares as the document words them, by lists of divisors."""
    together = max(plain_divisors(width) & plain_divisors(height))
    return tuple(
        (east, north)
        for east in range(13)
        for north in range(13)
        if east + north == together
        and plain_divisors(east) & plain_divisors(width) == {1}
        and plain_divisors(north) & plain_divisors(height) == {1}
    )


class Grid(unittest.TestCase):
    def test_all_sides(self):
        for width, height in ALL_SIDES:
            east = (0, 0) if width == 1 else (1, 0)
            north = (0, 0) if height == 1 else (0, 1)
            self.assertEqual(grid(width, height), (width, height, east, north))

    def test_each_is_a_whole_town(self):
        for width, height in ALL_SIDES:
            self.assertIs(is_town(grid(width, height)), True)
            self.assertIs(is_whole(grid(width, height)), True)

    def test_a_side_of_1(self):
        self.assertEqual(grid(1, 2), (1, 2, (0, 0), (0, 1)))
        self.assertEqual(grid(12, 1), (12, 1, (1, 0), (0, 0)))


class Shares(unittest.TestCase):
    def test_ordinary_sides(self):
        self.assertEqual(shares(2, 2), ((1, 1),))
        self.assertEqual(shares(4, 6), ((1, 1),))
        self.assertEqual(shares(12, 6), ((1, 5), (5, 1)))
        self.assertEqual(shares(6, 4), ((1, 1),))
        self.assertEqual(shares(4, 12), ((3, 1),))
        self.assertEqual(shares(12, 4), ((1, 3),))
        self.assertEqual(shares(12, 12), ((1, 11), (5, 7), (7, 5), (11, 1)))

    def test_0_has_all_divisors(self):
        self.assertEqual(shares(1, 5), ((0, 1),))
        self.assertEqual(shares(5, 1), ((1, 0),))
        self.assertEqual(shares(2, 3), ())

    def test_all_sides_by_divisors(self):
        for width, height in ALL_SIDES:
            self.assertEqual(shares(width, height), plain_shares(width, height), (width, height))

    def test_all_sides_as_the_grid_has_rounds(self):
        for width, height in ALL_SIDES:
            town = grid(width, height)
            many = len(lots(town))
            self.assertEqual(shares(width, height), tuple((east, many - east) for east in numbers(town)), town)
            rounds = sum(comb(gcd(width, height), east) for east, _ in shares(width, height))
            self.assertEqual(count_rounds(town), rounds, town)

    def test_small_grids_by_walking(self):
        for width, height in ALL_SIDES:
            if width * height <= 24:
                rounds = sum(comb(gcd(width, height), east) for east, _ in shares(width, height))
                self.assertEqual(rounds, len(plain_trips(grid(width, height))), (width, height))


class RoundGrids(unittest.TestCase):
    def test_each_number(self):
        for most in range(1, 13):
            expected = [
                sides for sides in ALL_SIDES if max(sides) <= most and round_trip(grid(*sides)) is not None
            ]
            self.assertEqual(round_grids(most), tuple(expected), most)

    def test_small_numbers(self):
        self.assertEqual(round_grids(1), ())
        self.assertEqual(round_grids(2), ((1, 2), (2, 1), (2, 2)))

    def test_the_most(self):
        found = round_grids(12)
        self.assertIn((12, 12), found)
        self.assertIn((1, 12), found)
        self.assertNotIn((12, 11), found)
        self.assertNotIn((1, 1), found)


class Limits(unittest.TestCase):
    def test_sides_within_and_beyond(self):
        for function in (grid, shares):
            for width in range(-1, 15):
                for height in range(-1, 15):
                    if (width, height) in ALL_SIDES:
                        function(width, height)
                    else:
                        with self.assertRaises(BadNumber):
                            function(width, height)

    def test_most_within_and_beyond(self):
        for most in (1, 12):
            round_grids(most)
        for most in (-1, 0, 13, 14):
            with self.assertRaises(BadNumber):
                round_grids(most)
