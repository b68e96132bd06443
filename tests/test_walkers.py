"""Point 9: walkers."""

import unittest
from itertools import product

from plain_counts import led_to, towns_up_to
from wrong_values import NOT_STREETS

from roundstreets.errors import BadNumber, NoStep
from roundstreets.walkers import Walker

TWO = (2, 2, (1, 0), (0, 1))
STAYING = (2, 1, (0, 0), (1, 0))
LARGEST = (12, 12, (1, 0), (0, 1))


def plain_path(town, streets):
    """The crossings come to by some streets, from (0, 0) on."""
    path = [(0, 0)]
    for street in streets:
        path.append(led_to(town, path[-1], street))
    return tuple(path)


class Walkers(unittest.TestCase):
    def assert_told(self, walker, town, streets):
        """Compare all that a walker tells with what the streets taken, and not taken back, lead to."""
        path = plain_path(town, streets)
        self.assertEqual(walker.streets, tuple(streets), town)
        self.assertEqual(walker.path, path, (town, streets))
        self.assertEqual(walker.missing(), town[0] * town[1] - len(set(path)), (town, streets))
        self.assertIs(walker.streets.__class__, tuple)
        self.assertIs(walker.path.__class__, tuple)

    def test_at_first(self):
        for town in [*towns_up_to(8), LARGEST]:
            walker = Walker(town)
            self.assertEqual(walker.streets, ())
            self.assertEqual(walker.path, ((0, 0),))
            self.assertEqual(walker.missing(), town[0] * town[1] - 1)

    def test_going_each_way(self):
        for town in towns_up_to(6):
            for streets in product((1, 2), repeat=4):
                walker = Walker(town)
                for gone, street in enumerate(streets):
                    self.assertIs(walker.go(street), None)
                    self.assert_told(walker, town, streets[:gone + 1])

    def test_taking_back(self):
        for town in towns_up_to(5):
            for streets in product((1, 2), repeat=4):
                walker = Walker(town)
                for street in streets:
                    walker.go(street)
                for left in (3, 2, 1, 0):
                    self.assertIs(walker.undo(), None)
                    self.assert_told(walker, town, streets[:left])

    def test_going_on_after_taking_back(self):
        for town in [TWO, STAYING, LARGEST, (6, 1, (2, 0), (3, 0))]:
            walker = Walker(town)
            taken = []
            for turn in (1, 2, 0, 2, 2, 0, 0, 1, 1, 1, 0, 2, 1, 0, 0, 0, 0, 0, 2):
                if turn == 0:
                    walker.undo()
                    taken.pop()
                else:
                    walker.go(turn)
                    taken.append(turn)
                self.assert_told(walker, town, taken)

    def test_taking_back_too_much(self):
        walker = Walker(TWO)
        for _ in range(2):
            with self.assertRaises(NoStep) as caught:
                walker.undo()
            self.assertIs(caught.exception.__class__, NoStep)
            self.assert_told(walker, TWO, ())
        walker.go(2)
        self.assert_told(walker, TWO, (2,))
        walker.undo()
        with self.assertRaises(NoStep):
            walker.undo()
        self.assert_told(walker, TWO, ())

    def test_a_wrong_street_changes_nothing(self):
        for streets in [(), (1,), (1, 2), (2, 2, 1)]:
            for wrong in NOT_STREETS:
                walker = Walker(TWO)
                for street in streets:
                    walker.go(street)
                with self.assertRaises(BadNumber) as caught:
                    walker.go(wrong)
                self.assertIs(caught.exception.__class__, BadNumber)
                self.assert_told(walker, TWO, streets)

    def test_a_crossing_twice(self):
        walker = Walker(TWO)
        for street in (1, 1, 2, 2, 1):
            walker.go(street)
        self.assertEqual(walker.path, ((0, 0), (1, 0), (0, 0), (0, 1), (0, 0), (1, 0)))
        self.assertEqual(walker.missing(), 1)
        walker.undo()
        self.assertEqual(walker.path, ((0, 0), (1, 0), (0, 0), (0, 1), (0, 0)))
        self.assertEqual(walker.missing(), 1)
        walker.undo()
        walker.undo()
        self.assertEqual(walker.path, ((0, 0), (1, 0), (0, 0)))
        self.assertEqual(walker.missing(), 2)

    def test_a_street_to_its_own_crossing(self):
        walker = Walker(STAYING)
        walker.go(1)
        self.assertEqual([walker.path, walker.missing()], [((0, 0), (0, 0)), 1])
        walker.go(2)
        self.assertEqual([walker.path, walker.missing()], [((0, 0), (0, 0), (1, 0)), 0])
        walker.undo()
        self.assertEqual([walker.path, walker.missing()], [((0, 0), (0, 0)), 1])
        walker.undo()
        self.assertEqual([walker.path, walker.missing()], [((0, 0),), 1])

    def test_all_crossings_and_beyond(self):
        walker = Walker(LARGEST)
        taken = []
        for _ in range(13):
            for street in [1] * 11 + [2]:
                walker.go(street)
                taken.append(street)
            self.assert_told(walker, LARGEST, taken)
        self.assertEqual(walker.missing(), 0)
        for _ in range(len(taken)):
            walker.undo()
        self.assert_told(walker, LARGEST, ())

    def test_what_was_told_stays(self):
        walker = Walker(TWO)
        walker.go(1)
        streets, path = walker.streets, walker.path
        walker.go(2)
        self.assertEqual([streets, path], [(1,), ((0, 0), (1, 0))])
        walker.undo()
        walker.undo()
        self.assertEqual([streets, path], [(1,), ((0, 0), (1, 0))])

    def test_telling_changes_nothing(self):
        walker = Walker(TWO)
        walker.go(1)
        self.assertEqual([walker.missing(), walker.missing()], [2, 2])
        self.assertEqual(walker.path, walker.path)
        self.assertEqual(walker.streets, walker.streets)
        self.assert_told(walker, TWO, (1,))

    def test_walkers_of_one_town_go_apart(self):
        one, other = Walker(TWO), Walker(TWO)
        one.go(1)
        self.assert_told(other, TWO, ())
        other.go(2)
        other.go(2)
        self.assert_told(one, TWO, (1,))
        self.assert_told(other, TWO, (2, 2))

    def test_in_the_class_itself(self):
        own = vars(Walker)
        for name in ("go", "undo", "missing"):
            self.assertTrue(callable(own[name]), name)
        for name in ("streets", "path"):
            self.assertIsInstance(own[name], property)
        self.assertEqual(Walker.__module__, "roundstreets.walkers")
