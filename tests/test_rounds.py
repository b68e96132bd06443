"""Points 5 and 6: how many rings, and rounds."""

import unittest
from math import comb

from plain_counts import goes_round, leads_everywhere, plain_trips, towns_up_to
from wrong_values import HUGE, NEVER_WALKS, nested

from roundstreets.rounds import count_rings, count_rounds, numbers, round_trip, shows_round_trip

TWO = (2, 2, (1, 0), (0, 1))
SIX = (6, 1, (2, 0), (3, 0))
NOT_WHOLE = (4, 1, (2, 0), (0, 0))
ONE_LOT = (12, 11, (1, 1), (0, 0))
LARGEST = (12, 12, (1, 0), (0, 1))


class CountRings(unittest.TestCase):
    def test_no_lot_and_all_lots(self):
        self.assertEqual([count_rings(TWO, many) for many in (0, 1, 2)], [2, 1, 2])
        self.assertEqual([count_rings((2, 3, (1, 0), (0, 1)), many) for many in (0, 1)], [2, 3])

    def test_one_lot(self):
        self.assertEqual([count_rings(ONE_LOT, many) for many in (0, 1)], [132, 1])
        self.assertEqual([count_rings((12, 11, (0, 0), (1, 1)), many) for many in (0, 1)], [1, 132])

    def test_longest_sides(self):
        found = [count_rings(LARGEST, many) for many in range(13)]
        self.assertEqual(found, [12, 1, 2, 3, 4, 1, 6, 1, 4, 3, 2, 1, 12])


class Numbers(unittest.TestCase):
    def test_ordinary_towns(self):
        self.assertEqual(numbers((3, 3, (1, 0), (0, 1))), (1, 2))
        self.assertEqual(numbers((6, 6, (1, 0), (0, 1))), (1, 5))
        self.assertEqual(numbers((2, 3, (1, 0), (0, 1))), ())
        self.assertEqual(numbers((5, 1, (1, 0), (0, 0))), (1,))
        self.assertEqual(numbers((5, 1, (1, 0), (2, 0))), (0, 1))

    def test_longest_sides(self):
        self.assertEqual(numbers(LARGEST), (1, 5, 7, 11))
        self.assertEqual(numbers((12, 1, (1, 0), (0, 0))), (1,))
        self.assertEqual(numbers((1, 12, (0, 0), (0, 11))), (0,))

    def test_without_a_round(self):
        self.assertEqual(numbers(SIX), ())
        self.assertEqual(numbers(NOT_WHOLE), ())
        self.assertEqual(numbers((2, 2, (1, 1), (0, 0))), ())


class CountRounds(unittest.TestCase):
    def test_ordinary_towns(self):
        self.assertEqual([count_rounds(town) for town in (TWO, (3, 3, (1, 0), (0, 1)), ONE_LOT)], [2, 6, 1])

    def test_longest_sides(self):
        self.assertEqual(count_rounds(LARGEST), 2 * comb(12, 1) + 2 * comb(12, 5))

    def test_without_a_round(self):
        self.assertEqual([count_rounds(SIX), count_rounds(NOT_WHOLE)], [0, 0])


class RoundTrip(unittest.TestCase):
    def test_ordinary_towns(self):
        for town in [TWO, ONE_LOT, LARGEST, (1, 12, (0, 0), (0, 11)), (2, 1, (0, 0), (1, 0)), (4, 6, (1, 1), (1, 0))]:
            trip = round_trip(town)
            self.assertIsInstance(trip, tuple)
            self.assertTrue(goes_round(town, trip), town)

    def test_without_any(self):
        self.assertIs(round_trip(SIX), None)
        self.assertIs(round_trip(NOT_WHOLE), None)
        self.assertIs(round_trip((12, 11, (1, 0), (0, 1))), None)


class ShowsRoundTrip(unittest.TestCase):
    def test_each_trip_and_not_only_the_returned_one(self):
        for town in [TWO, (3, 3, (1, 0), (0, 1)), (6, 2, (1, 0), (0, 1)), (5, 1, (1, 0), (2, 0)), (4, 4, (1, 0), (1, 1))]:
            trips = plain_trips(town)
            self.assertGreater(len(trips), 1)
            for trip in trips:
                self.assertIs(shows_round_trip(town, trip), True, (town, trip))
            self.assertIn(round_trip(town), trips)

    def test_none(self):
        for town in towns_up_to(6):
            self.assertIs(shows_round_trip(town, None), not plain_trips(town), town)

    def test_longest_sides(self):
        trip = round_trip(LARGEST)
        self.assertIs(shows_round_trip(LARGEST, trip), True)
        self.assertIs(shows_round_trip(LARGEST, trip[:-1]), False)
        self.assertIs(shows_round_trip(LARGEST, trip[:50] + (trip[51], trip[50]) + trip[52:]), False)

    def test_trips_that_are_not_quite_one(self):
        town = (3, 3, (1, 0), (0, 1))
        trip = plain_trips(town)[0]
        wrong = [
            trip[1:] + trip[:1], trip[:-1], trip + ((0, 0),), trip + trip, trip[:1] + trip[:0:-1], (), trip[:1],
            list(trip), [list(crossing) for crossing in trip], tuple(list(crossing) for crossing in trip),
            dict(zip(trip, trip)), {crossing: None for crossing in trip}, (trip,), trip[:-1] + (trip[-2],),
            trip[:-1] + (trip[0],), str(trip), trip[:1] * 9,
        ]
        for value in wrong:
            self.assertIs(shows_round_trip(town, value), False, value)

    def test_a_path_that_does_not_come_back(self):
        town = (6, 1, (2, 0), (3, 0))
        self.assertIs(shows_round_trip(town, tuple((place, 0) for place in (0, 2, 4, 1, 3, 5))), False)
        town = (2, 3, (1, 0), (0, 1))
        self.assertIs(shows_round_trip(town, ((0, 0), (1, 0), (1, 1), (0, 1), (0, 2), (1, 2))), False)

    def test_a_last_crossing_from_which_no_street_leads_back(self):
        town = (5, 1, (1, 0), (2, 0))
        self.assertIs(shows_round_trip(town, tuple((place, 0) for place in (0, 1, 2, 3, 4))), True)
        self.assertIs(shows_round_trip(town, tuple((place, 0) for place in (0, 1, 3, 4, 2))), False)

    def test_wrong_items_deep_inside(self):
        for town in [(2, 1, (1, 0), (0, 0)), (2, 2, (1, 0), (0, 1)), (3, 1, (1, 0), (2, 0))]:
            trip = round_trip(town)
            for place, crossing in enumerate(trip):
                for wrong in [
                    None, True, 0, "00", "", (), [], {}, crossing[:1], crossing + (0,), list(crossing), (crossing,),
                    (crossing[0] + town[0], crossing[1]), (crossing[0], crossing[1] + town[1]),
                    (crossing[0] - town[0], crossing[1]), (HUGE, crossing[1]), (crossing[0], -HUGE),
                    (bool(crossing[0]), crossing[1]), (crossing[0], bool(crossing[1])), (None, crossing[1]),
                    (crossing[0], str(crossing[1])), ((crossing[0],), crossing[1]), ([0], 0), (0, {}), nested(5000),
                    (crossing[0], nested(5000)),
                ]:
                    value = trip[:place] + (wrong,) + trip[place + 1:]
                    self.assertIs(shows_round_trip(town, value), False, (town, place))

    def test_other_kinds_of_values(self):
        for town in [TWO, SIX, NOT_WHOLE, ONE_LOT, LARGEST, (2, 1, (0, 0), (1, 0))]:
            for value in NEVER_WALKS:
                self.assertIs(shows_round_trip(town, value), False)

    def test_what_is_returned_is_shown(self):
        for town in towns_up_to(12):
            trip = round_trip(town)
            self.assertIs(shows_round_trip(town, trip), True, town)
            if not leads_everywhere(town):
                self.assertIs(trip, None, town)
