"""Every table of streets of every small town, against a plain count."""

import unittest
from collections import Counter
from itertools import combinations, product

from plain_counts import (
    all_crossings,
    all_plans,
    all_tables,
    goes_round,
    leads_everywhere,
    lots_on_first,
    plain_lots,
    plain_rings,
    plain_trips,
    towns_up_to,
)

from roundstreets.errors import NotWhole
from roundstreets.plans import count_plans, is_plan, plans_by_rings, rings, table
from roundstreets.rounds import count_rings, count_rounds, numbers, round_trip, shows_round_trip


class SmallTowns(unittest.TestCase):
    def test_which_tables_are_plans(self):
        for town in towns_up_to(7):
            plans = set(all_plans(town))
            for streets in all_tables(town):
                self.assertIs(is_plan(town, streets), streets in plans, (town, streets))

    def test_how_many_plans(self):
        for town in towns_up_to(9):
            self.assertEqual(count_plans(town), len(all_plans(town)), town)

    def test_table_and_rings_of_every_choice(self):
        for town in towns_up_to(8):
            plans = {lots_on_first(town, streets): streets for streets in all_plans(town)}
            many_lots = len(plain_lots(town))
            choices = [chosen for many in range(many_lots + 1) for chosen in combinations(range(many_lots), many)]
            self.assertEqual(sorted(plans), sorted(choices), town)
            for chosen in choices:
                self.assertEqual(table(town, chosen), plans[chosen], (town, chosen))
                self.assertEqual(rings(town, chosen), plain_rings(town, plans[chosen]), (town, chosen))

    def test_how_many_rings(self):
        for town in towns_up_to(9):
            if leads_everywhere(town):
                self.check_rings(town)
            else:
                with self.assertRaises(NotWhole):
                    plans_by_rings(town)

    def check_rings(self, town):
        counted = Counter()
        for streets in all_plans(town):
            made = len(plain_rings(town, streets))
            counted[made] += 1
            self.assertEqual(count_rings(town, len(lots_on_first(town, streets))), made, (town, streets))
        self.assertEqual(plans_by_rings(town), tuple(sorted(counted.items())), town)

    def test_rounds(self):
        for town in towns_up_to(9):
            found = [streets for streets in all_plans(town) if len(plain_rings(town, streets)) == 1]
            many = {len(lots_on_first(town, streets)) for streets in found}
            self.assertEqual(numbers(town), tuple(sorted(many)), town)
            self.assertEqual(count_rounds(town), len(found), town)
            trip = round_trip(town)
            self.assertEqual(trip is None, not found, town)
            self.assertTrue(trip is None or goes_round(town, trip), town)

    def test_each_round_is_a_trip(self):
        for town in towns_up_to(12):
            self.assertEqual(count_rounds(town), len(plain_trips(town)), town)

    def test_every_tuple_of_crossings(self):
        for town in towns_up_to(4):
            trips = plain_trips(town)
            crossings = all_crossings(town[0], town[1])
            for value in product(crossings, repeat=len(crossings)):
                self.assertIs(shows_round_trip(town, value), value in trips, (town, value))
