"""Points 4 and 5: plans and their rings."""

import unittest
from itertools import combinations
from math import comb

from plain_counts import all_crossings, entered_once, plain_lots, plain_rings

from roundstreets.plans import count_plans, is_plan, plans_by_rings, rings, table

TWO = (2, 2, (1, 0), (0, 1))
SIX = (6, 1, (2, 0), (3, 0))
NOT_WHOLE = (4, 1, (2, 0), (0, 0))
ONE_LOT = (12, 11, (1, 1), (0, 0))


class IsPlan(unittest.TestCase):
    def test_two_by_two(self):
        for streets in [(1, 1, 1, 1), (2, 2, 2, 2), (1, 2, 2, 1), (2, 1, 1, 2)]:
            self.assertIs(is_plan(TWO, streets), True, streets)
        for streets in [(1, 2, 1, 2), (1, 1, 1, 2), (2, 2, 1, 1), (1, 1, 2, 2), (2, 1, 1, 1)]:
            self.assertIs(is_plan(TWO, streets), False, streets)

    def test_a_town_that_is_not_whole(self):
        self.assertIs(is_plan(NOT_WHOLE, (1, 2, 1, 2)), True)
        self.assertIs(is_plan(NOT_WHOLE, (1, 1, 2, 2)), False)

    def test_one_lot(self):
        self.assertIs(is_plan(ONE_LOT, (1,) * 132), True)
        self.assertIs(is_plan(ONE_LOT, (2,) * 132), True)
        for place in (0, 60, 131):
            self.assertIs(is_plan(ONE_LOT, (2,) * place + (1,) + (2,) * (131 - place)), False)

    def test_longest_sides(self):
        town = (12, 12, (1, 0), (0, 1))
        rows = [tuple(1 if (x + y) % 12 in (0, 5) else 2 for y in range(12)) for x in range(12)]
        self.assertIs(is_plan(town, sum(rows, ())), True)
        self.assertIs(is_plan(town, sum(rows[1:] + rows[:1], ())), True)
        self.assertIs(is_plan(town, sum(rows[1::-1] + rows[2:], ())), False)


class Table(unittest.TestCase):
    def test_chosen_lots_take_the_first_street(self):
        self.assertEqual(table(TWO, (1,)), (2, 1, 1, 2))
        self.assertEqual(table(SIX, (0,)), (1, 1, 1, 1, 1, 1))
        self.assertEqual(table((2, 3, (1, 1), (0, 1)), (1,)), (2, 1, 2, 2, 1, 2))

    def test_no_lot_and_all_lots(self):
        self.assertEqual(table(TWO, ()), (2, 2, 2, 2))
        self.assertEqual(table(TWO, (0, 1)), (1, 1, 1, 1))
        self.assertEqual(table(NOT_WHOLE, ()), (2, 2, 2, 2))
        self.assertEqual(table(ONE_LOT, (0,)), (1,) * 132)

    def test_every_choice_of_a_town_is_another_plan(self):
        town = (3, 6, (1, 0), (0, 1))
        choices = [chosen for many in range(4) for chosen in combinations(range(3), many)]
        tables = [table(town, chosen) for chosen in choices]
        self.assertEqual(len(set(tables)), 8)
        for streets in tables:
            self.assertTrue(entered_once(town, streets))

    def test_longest_sides(self):
        town = (12, 12, (6, 0), (0, 0))
        own_lots = plain_lots(town)
        chosen = (0, 30, 71)
        streets = dict(zip(all_crossings(12, 12), table(town, chosen)))
        for number, lot in enumerate(own_lots):
            for crossing in lot:
                self.assertEqual(streets[crossing], 1 if number in chosen else 2)


class Rings(unittest.TestCase):
    def test_own_crossing_as_a_ring(self):
        self.assertEqual(rings((3, 1, (0, 0), (1, 0)), (0,)), (((0, 0),), ((1, 0),), ((2, 0),)))
        self.assertEqual(rings((3, 1, (1, 0), (0, 0)), ()), (((0, 0),), ((1, 0),), ((2, 0),)))
        self.assertEqual(rings((3, 1, (0, 0), (1, 0)), ()), (((0, 0), (1, 0), (2, 0)),))

    def test_a_town_that_is_not_whole(self):
        self.assertEqual(rings(NOT_WHOLE, (0,)), (((0, 0), (2, 0)), ((1, 0),), ((3, 0),)))

    def test_in_the_order_of_walking(self):
        self.assertEqual(rings((5, 1, (3, 0), (0, 0)), (0,)), (((0, 0), (3, 0), (1, 0), (4, 0), (2, 0)),))

    def test_longest_sides(self):
        town = (12, 12, (1, 0), (0, 1))
        for chosen in [(), (0,), (1, 4), (0, 2, 5, 7, 11), tuple(range(12))]:
            self.assertEqual(rings(town, chosen), plain_rings(town, table(town, chosen)), chosen)
        self.assertEqual(len(rings(town, (0, 1, 2, 3, 11))), 1)
        self.assertEqual([len(rings(town, chosen)) for chosen in ((), (0, 1), (3, 4, 5, 6))], [12, 2, 4])


class CountPlans(unittest.TestCase):
    def test_two_for_each_lot(self):
        self.assertEqual([count_plans(town) for town in (TWO, SIX, NOT_WHOLE, ONE_LOT)], [4, 2, 4, 2])

    def test_most_plans(self):
        self.assertEqual(count_plans((12, 12, (6, 0), (0, 0))), 4722366482869645213696)
        self.assertEqual(count_plans((12, 12, (7, 6), (1, 6))), 2 ** 72)


class PlansByRings(unittest.TestCase):
    def test_one_lot(self):
        self.assertEqual(plans_by_rings(ONE_LOT), ((1, 1), (132, 1)))
        self.assertEqual(plans_by_rings(SIX), ((2, 1), (3, 1)))

    def test_as_many_rings_by_both_streets(self):
        self.assertEqual(plans_by_rings((3, 1, (1, 0), (2, 0))), ((1, 2),))

    def test_longest_sides(self):
        found = plans_by_rings((12, 12, (1, 0), (0, 1)))
        by_hand = {}
        for many, made in enumerate([12, 1, 2, 3, 4, 1, 6, 1, 4, 3, 2, 1, 12]):
            by_hand[made] = by_hand.get(made, 0) + comb(12, many)
        self.assertEqual(found, tuple(sorted(by_hand.items())))
        self.assertEqual(sum(plans for _, plans in found), 4096)
