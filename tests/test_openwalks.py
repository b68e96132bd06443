"""Point 8: open walks."""

import unittest
from itertools import product

from plain_counts import (
    all_crossings,
    all_towns,
    goes_along,
    leads_everywhere,
    plain_trips,
    plain_walks,
    reached_from,
    towns_up_to,
)
from wrong_values import HUGE, NEVER_WALKS, nested

from roundstreets.openwalks import open_walk, shows_open_walk
from roundstreets.rounds import round_trip

TWO = (2, 2, (1, 0), (0, 1))
SIX = (6, 1, (2, 0), (3, 0))
NOT_WHOLE = (4, 1, (2, 0), (0, 0))
ONE_LOT = (12, 11, (1, 1), (0, 0))
LARGEST = (12, 12, (1, 0), (0, 1))
# Whole, but without a round.
NO_ROUND = [SIX, (2, 3, (1, 0), (0, 1)), (12, 11, (1, 0), (0, 1)), (10, 12, (1, 2), (3, 1)), (1, 6, (0, 2), (0, 3))]
WITH_ROUND = [TWO, ONE_LOT, LARGEST, (1, 12, (0, 0), (0, 11)), (2, 1, (0, 0), (1, 0)), (4, 6, (1, 1), (1, 0))]
OTHERS_NOT_WHOLE = [
    NOT_WHOLE, (12, 12, (2, 0), (0, 1)), (2, 2, (0, 0), (1, 1)), (1, 12, (0, 3), (0, 6)), (6, 12, (3, 1), (2, 0)),
]


class OpenWalk(unittest.TestCase):
    def test_small_towns(self):
        for town in towns_up_to(12):
            walk = open_walk(town)
            walks = plain_walks(town)
            if walks:
                self.assertIn(walk, walks, town)
            else:
                self.assertIs(walk, None, town)

    def test_exactly_for_whole_towns(self):
        for town in towns_up_to(12):
            self.assertIs(open_walk(town) is None, not leads_everywhere(town), town)

    def assert_walk(self, town):
        walk = open_walk(town)
        self.assertIsInstance(walk, tuple)
        self.assertTrue(goes_along(town, walk), town)

    def test_with_a_round(self):
        for town in WITH_ROUND:
            self.assertIsNot(round_trip(town), None, town)
            self.assert_walk(town)

    def test_without_a_round(self):
        for town in NO_ROUND:
            self.assertIs(round_trip(town), None, town)
            self.assert_walk(town)

    def test_not_whole(self):
        for town in OTHERS_NOT_WHOLE:
            self.assertIs(open_walk(town), None, town)

    def test_each_kind_of_larger_town(self):
        for sides in [(12, 12), (12, 10), (9, 12), (1, 12), (12, 1), (8, 8), (11, 11)]:
            for town in all_towns(*sides)[::83]:
                if len(reached_from(town, (0, 0))) == sides[0] * sides[1]:
                    self.assert_walk(town)
                else:
                    self.assertIs(open_walk(town), None, town)

    def test_a_step_that_stays(self):
        for town in [(12, 1, (0, 0), (5, 0)), (12, 1, (5, 0), (0, 0)), (3, 4, (2, 1), (0, 0)), (3, 4, (0, 0), (1, 3))]:
            self.assert_walk(town)
            self.assertEqual(len(plain_walks(town)), 1, town)


class ShowsOpenWalk(unittest.TestCase):
    def test_each_walk_and_not_only_the_returned_one(self):
        for town in towns_up_to(8):
            for walk in plain_walks(town):
                self.assertIs(shows_open_walk(town, walk), True, (town, walk))
        self.assertGreater(len(plain_walks(TWO)), 1)

    def test_each_round_trip_is_one(self):
        for town in [*WITH_ROUND, (3, 3, (1, 0), (0, 1))]:
            self.assertIs(shows_open_walk(town, round_trip(town)), True, town)
        for trip in plain_trips((3, 3, (1, 0), (0, 1))):
            self.assertIs(shows_open_walk((3, 3, (1, 0), (0, 1)), trip), True, trip)

    def test_every_tuple_of_crossings(self):
        for town in towns_up_to(4):
            walks = plain_walks(town)
            crossings = all_crossings(town[0], town[1])
            for value in product(crossings, repeat=len(crossings)):
                self.assertIs(shows_open_walk(town, value), value in walks, (town, value))

    def test_none(self):
        for town in towns_up_to(9):
            self.assertIs(shows_open_walk(town, None), not leads_everywhere(town), town)

    def test_what_is_returned_is_shown(self):
        for town in [*towns_up_to(9), *WITH_ROUND, *NO_ROUND, *OTHERS_NOT_WHOLE]:
            self.assertIs(shows_open_walk(town, open_walk(town)), True, town)

    def test_longest_sides(self):
        walk = open_walk(LARGEST)
        self.assertIs(shows_open_walk(LARGEST, walk[:-1]), False)
        self.assertIs(shows_open_walk(LARGEST, walk[:50] + (walk[51], walk[50]) + walk[52:]), False)

    def test_walks_that_are_not_quite_one(self):
        town = (3, 3, (1, 0), (0, 1))
        for walk in plain_walks(town)[:4]:
            wrong = [
                walk[1:] + walk[:1], walk[:-1], walk[1:], walk + ((0, 0),), walk + walk, walk[:1] + walk[:0:-1], (),
                walk[:1], list(walk), [list(crossing) for crossing in walk], tuple(list(here) for here in walk),
                dict(zip(walk, walk)), {crossing: None for crossing in walk}, (walk,), walk[:-1] + (walk[-2],),
                walk[:-1] + (walk[0],), str(walk), walk[:1] * 9, ((1, 0),) + walk[1:], walk + (None,),
            ]
            for value in wrong:
                self.assertIs(shows_open_walk(town, value), False, value)

    def test_a_walk_from_elsewhere(self):
        moved = tuple(((x + 1) % 6, y) for x, y in open_walk(SIX))
        self.assertIs(shows_open_walk(SIX, moved), False)

    def test_a_walk_against_the_streets(self):
        town = (5, 1, (1, 0), (0, 0))
        self.assertIs(shows_open_walk(town, tuple((place, 0) for place in (0, 1, 2, 3, 4))), True)
        self.assertIs(shows_open_walk(town, tuple((place, 0) for place in (0, 4, 3, 2, 1))), False)
        self.assertIs(shows_open_walk(town, tuple((place, 0) for place in (0, 1, 2, 4, 3))), False)

    def test_wrong_items_deep_inside(self):
        for town in [(2, 1, (1, 0), (0, 0)), TWO, SIX]:
            walk = open_walk(town)
            for place, crossing in enumerate(walk):
                for wrong in [
                    None, True, 0, "00", "", (), [], {}, crossing[:1], crossing + (0,), list(crossing), (crossing,),
                    (crossing[0] + town[0], crossing[1]), (crossing[0], crossing[1] + town[1]),
                    (crossing[0] - town[0], crossing[1]), (HUGE, crossing[1]), (crossing[0], -HUGE),
                    (bool(crossing[0]), crossing[1]), (crossing[0], bool(crossing[1])), (None, crossing[1]),
                    (crossing[0], str(crossing[1])), ((crossing[0],), crossing[1]), ([0], 0), (0, {}), nested(5000),
                    (crossing[0], nested(5000)),
                ]:
                    value = walk[:place] + (wrong,) + walk[place + 1:]
                    self.assertIs(shows_open_walk(town, value), False, (town, place))

    def test_other_kinds_of_values(self):
        for town in [TWO, SIX, NOT_WHOLE, ONE_LOT, LARGEST, (2, 1, (0, 0), (1, 0))]:
            for value in NEVER_WALKS:
                self.assertIs(shows_open_walk(town, value), False)

    def test_a_walk_of_another_town(self):
        self.assertIs(shows_open_walk(NOT_WHOLE, tuple((place, 0) for place in (0, 2, 1, 3))), False)
        self.assertIs(shows_open_walk(NOT_WHOLE, ((0, 0), (2, 0))), False)
