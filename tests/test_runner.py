"""A town as it stands and the steps that led there ([19])."""

import unittest

from helper import dry, error_of, rows
from ridesonce.rules import LastBooked, Rule
from ridesonce.runner import Runner
from ridesonce.steps import run
from ridesonce.towns import Town


def told(runner):
    """All that a runner tells."""
    return (rows(runner.town), runner.order, runner.left, len(runner), [rows(town) for town in runner])


class RunnerTest(unittest.TestCase):
    def test_at_first(self):
        runner = Runner(dry())
        everything = ["r1", "r2", "r3", "r4"]
        self.assertEqual(told(runner), (rows(dry()), [], everything, 0, [rows(dry())]))

    def test_steps(self):
        runner = Runner(dry())
        self.assertIsNone(runner.go("r3"))
        self.assertIsNone(runner.go("r1"))
        towns = [rows(run(dry(), order)) for order in ([], ["r3"], ["r3", "r1"])]
        self.assertEqual(told(runner), (towns[2], ["r3", "r1"], ["r2", "r4"], 2, towns))

    def test_unkept_rides(self):
        runner = Runner(Town([("a", 1, 1), ("b", 1, 1)], [("r", "a", "b", False), ("q", "b", "a", True)]))
        runner.go("r")
        self.assertEqual((runner.order, runner.left, len(runner)), (["r"], ["r", "q"], 1))
        runner.go("q")
        runner.go("r")
        self.assertEqual((runner.order, runner.left, len(runner)), (["r", "q", "r"], [], 3))
        self.assertEqual(runner.back(), "r")
        self.assertEqual(runner.left, ["r"])

    def test_a_step_that_fails_changes_nothing(self):
        runner = Runner(dry())
        runner.go("r3")
        before = told(runner)
        self.assertEqual(error_of(runner.go, "r2"), ("CannotGo", "r2"))
        self.assertEqual(error_of(runner.go, "r3"), ("UnknownRide", "r3"))
        self.assertEqual(error_of(runner.go, "a"), ("UnknownRide", "a"))
        self.assertEqual(told(runner), before)

    def test_back(self):
        runner = Runner(dry())
        runner.go("r3")
        before = told(runner)
        runner.go("r4")
        self.assertEqual(runner.back(), "r4")
        self.assertEqual(told(runner), before)
        self.assertEqual(runner.back(), "r3")
        self.assertEqual(told(runner), told(Runner(dry())))
        self.assertEqual(error_of(runner.back), ("NothingToUndo",))
        self.assertEqual(told(runner), told(Runner(dry())))
        runner.go("r3")
        self.assertEqual(told(runner), before)

    def test_follow(self):
        runner = Runner(dry())
        runner.go("r3")
        self.assertEqual(runner.follow(Rule()), 3)
        self.assertEqual(runner.order, ["r3", "r1", "r2", "r4"])
        self.assertEqual(runner.follow(Rule()), 0)
        self.assertEqual(len(runner), 4)
        for name in ("r4", "r2", "r1"):
            self.assertEqual(runner.back(), name)
        self.assertEqual(runner.follow(LastBooked()), 1)
        self.assertEqual(runner.order, ["r3", "r4"])
        self.assertEqual(len(list(runner)), 3)

    def test_returned_lists_are_new(self):
        runner = Runner(dry())
        runner.go("r3")
        before = told(runner)
        order, left = runner.order, runner.left
        runner.order.append("x")
        runner.left.clear()
        self.assertEqual(told(runner), before)
        runner.go("r1")
        self.assertEqual((order, left), (["r3"], ["r1", "r2", "r4"]))

    def test_who_iterates_may_go_on(self):
        runner = Runner(dry())
        seen = []
        for town in runner:
            seen.append(rows(town))
            runner.follow(Rule())
        self.assertEqual(seen, [rows(dry())])
        self.assertEqual(len(list(runner)), 5)

    def test_the_town_that_was_passed_stays_as_it_was(self):
        town = dry()
        Runner(town).follow(Rule())
        self.assertEqual(rows(town), rows(dry()))

    def test_properties_cannot_be_assigned(self):
        runner = Runner(dry())
        for name in ("town", "order", "left"):
            self.assertIsInstance(vars(Runner)[name], property)
            self.assertRaises(AttributeError, setattr, runner, name, [])

    def test_own_methods(self):
        for name in ("go", "back", "follow", "__len__", "__iter__"):
            self.assertIn(name, vars(Runner))


if __name__ == "__main__":
    unittest.main()
