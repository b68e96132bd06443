"""Points 2 and 3: towns, their streets and lots."""

import unittest

from plain_counts import (
    all_crossings,
    all_towns,
    leads_everywhere,
    led_to,
    plain_lots,
    plain_order,
    reached_from,
    towns_up_to,
)
from wrong_values import bad_towns

from roundstreets.towns import ends, is_town, is_whole, lots, order


class IsTown(unittest.TestCase):
    def test_every_size_of_sides(self):
        for width in range(-1, 16):
            for height in range(-1, 16):
                allowed = 1 <= width <= 12 and 1 <= height <= 12 and (width, height) != (1, 1)
                step = (0, 1) if width == 1 else (1, 0)
                self.assertIs(is_town((width, height, step, (0, 0))), allowed, (width, height))

    def test_every_pair_of_steps(self):
        pairs = [(x, y) for x in range(-1, 4) for y in range(-1, 5)]
        for first in pairs:
            for second in pairs:
                inside = all(0 <= x < 2 and 0 <= y < 3 for x, y in (first, second))
                self.assertIs(is_town((2, 3, first, second)), inside and first != second, (first, second))

    def test_a_step_that_stays(self):
        self.assertIs(is_town((2, 1, (0, 0), (1, 0))), True)
        self.assertIs(is_town((2, 1, (1, 0), (0, 0))), True)
        self.assertIs(is_town((2, 1, (0, 0), (0, 0))), False)

    def test_longest_sides(self):
        self.assertIs(is_town((12, 12, (11, 11), (0, 11))), True)
        self.assertIs(is_town((12, 12, (12, 0), (0, 1))), False)
        self.assertIs(is_town((12, 12, (1, 0), (0, 12))), False)

    def test_wrong_values(self):
        for part, value in bad_towns():
            self.assertIs(is_town(value), False, part)


class Ends(unittest.TestCase):
    def test_all_small_towns(self):
        for town in towns_up_to(9):
            for crossing in all_crossings(town[0], town[1]):
                plain = (led_to(town, crossing, 1), led_to(town, crossing, 2))
                self.assertEqual(ends(town, crossing), plain, (town, crossing))

    def test_wraps_round(self):
        self.assertEqual(ends((12, 12, (11, 11), (1, 0)), (11, 11)), ((10, 10), (0, 11)))
        self.assertEqual(ends((3, 5, (2, 4), (0, 1)), (2, 3)), ((1, 2), (2, 4)))

    def test_each_place_by_its_own_side(self):
        self.assertEqual(ends((2, 5, (1, 0), (0, 4)), (1, 3)), ((0, 3), (1, 2)))
        self.assertEqual(ends((5, 2, (4, 0), (0, 1)), (3, 1)), ((2, 1), (3, 0)))

    def test_own_crossing_as_an_end(self):
        self.assertEqual(ends((3, 3, (0, 0), (1, 2)), (2, 2)), ((2, 2), (0, 1)))
        self.assertEqual(ends((3, 3, (1, 2), (0, 0)), (2, 2)), ((0, 1), (2, 2)))

    def test_a_side_of_one(self):
        self.assertEqual(ends((1, 4, (0, 3), (0, 1)), (0, 3)), ((0, 2), (0, 0)))


class Order(unittest.TestCase):
    def test_every_crossing_of_every_size(self):
        for width in range(1, 13):
            for height in range(2, 13):
                town = (width, height, (0, 1), (0, 0))
                for crossing in all_crossings(width, height):
                    self.assertEqual(order(town, crossing), plain_order(town, crossing), (town, crossing))

    def test_once_or_more(self):
        self.assertEqual(order((2, 2, (1, 0), (0, 1)), (0, 0)), 1)
        self.assertEqual(order((12, 1, (1, 0), (0, 0)), (0, 0)), 1)

    def test_longest(self):
        self.assertEqual(order((12, 11, (1, 0), (0, 1)), (1, 1)), 132)
        self.assertEqual(order((12, 12, (1, 0), (0, 1)), (1, 1)), 12)
        self.assertEqual(order((12, 12, (1, 0), (0, 1)), (8, 9)), 12)

    def test_does_not_depend_on_the_steps(self):
        for town in all_towns(2, 3):
            self.assertEqual([order(town, (x, y)) for x, y in ((1, 0), (0, 1), (1, 1))], [2, 3, 6], town)


class IsWhole(unittest.TestCase):
    def test_all_small_towns(self):
        for town in towns_up_to(12):
            self.assertIs(is_whole(town), leads_everywhere(town), town)

    def test_longest_sides(self):
        for second in all_crossings(12, 12):
            for first in ((1, 0), (3, 4), (4, 6)):
                if first != second:
                    town = (12, 12, first, second)
                    self.assertIs(is_whole(town), len(reached_from(town, (0, 0))) == 144, town)

    def test_one_lot_is_not_enough(self):
        # The difference of the steps leads everywhere, and so do the steps.
        self.assertIs(is_whole((5, 1, (2, 0), (1, 0))), True)
        self.assertIs(is_whole((12, 11, (0, 0), (1, 1))), True)

    def test_towns_that_are_not_whole(self):
        for town in [(4, 1, (2, 0), (0, 0)), (6, 1, (2, 0), (4, 0)), (2, 2, (1, 1), (0, 0)), (12, 12, (1, 0), (0, 2))]:
            self.assertIs(is_whole(town), False, town)


class Lots(unittest.TestCase):
    def test_all_small_towns(self):
        for town in towns_up_to(12):
            self.assertEqual(lots(town), plain_lots(town), town)

    def test_longest_sides(self):
        for second in all_crossings(12, 12):
            if second != (5, 8):
                town = (12, 12, (5, 8), second)
                self.assertEqual(lots(town), plain_lots(town), town)

    def test_one_lot(self):
        self.assertEqual(lots((3, 1, (1, 0), (2, 0))), (((0, 0), (1, 0), (2, 0)),))
        self.assertEqual(lots((12, 11, (1, 1), (0, 0))), (tuple(all_crossings(12, 11)),))

    def test_a_town_that_is_not_whole(self):
        self.assertEqual(lots((4, 1, (2, 0), (0, 0))), (((0, 0), (2, 0)), ((1, 0), (3, 0))))

    def test_difference_and_not_a_step(self):
        self.assertEqual(lots((2, 2, (1, 0), (1, 1))), (((0, 0), (0, 1)), ((1, 0), (1, 1))))

    def test_most_lots(self):
        found = lots((12, 12, (6, 6), (0, 0)))
        self.assertEqual([len(found), found[0], found[-1]], [72, ((0, 0), (6, 6)), ((5, 11), (11, 5))])
