"""The errors of the interface, and where its functions and classes are defined."""

import unittest

from roundstreets import errors, grids, openwalks, plans, rounds, towns, towntexts, walkers

WITHOUT_FIELDS = ["BadCrossing", "BadTable", "BadChoice", "BadNumber", "NotWhole", "NoStep", "BadText"]
FUNCTIONS = {
    towns: ["is_town", "is_whole", "ends", "order", "lots"],
    plans: ["is_plan", "table", "rings", "count_plans", "plans_by_rings"],
    rounds: ["numbers", "count_rings", "count_rounds", "round_trip", "shows_round_trip"],
    grids: ["grid", "shares", "round_grids"],
    openwalks: ["open_walk", "shows_open_walk"],
    walkers: ["Walker"],
    towntexts: ["write_town", "read_town"],
}


class Errors(unittest.TestCase):
    def test_base_class(self):
        self.assertEqual(errors.TownError.__bases__, (ValueError,))

    def test_direct_subclasses(self):
        for name in [*WITHOUT_FIELDS, "BadTown", "BadLine"]:
            self.assertEqual(getattr(errors, name).__bases__, (errors.TownError,), name)

    def test_without_fields(self):
        for name in WITHOUT_FIELDS:
            self.assertEqual(vars(getattr(errors, name)()), {}, name)

    def test_bad_town(self):
        self.assertEqual(vars(errors.BadTown("steps")), {"part": "steps"})
        self.assertEqual(vars(errors.BadTown(part="sides")), {"part": "sides"})

    def test_bad_line(self):
        self.assertEqual(vars(errors.BadLine(2, 3)), {"line": 2, "word": 3})
        self.assertEqual(vars(errors.BadLine(word=1, line=4)), {"line": 4, "word": 1})


class WhereDefined(unittest.TestCase):
    def test_functions(self):
        for module, names in FUNCTIONS.items():
            for name in names:
                self.assertEqual(getattr(module, name).__module__, module.__name__, name)

    def test_errors(self):
        for name in ["TownError", *WITHOUT_FIELDS, "BadTown", "BadLine"]:
            self.assertEqual(getattr(errors, name).__module__, "roundstreets.errors", name)
