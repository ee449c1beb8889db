"""What steps do, and which can be made ([11] to [13])."""

import unittest

from helper import brim, dry, error_of, moves, random_towns, reached_states, rows, state_of
from ridesonce.steps import able, go, is_stopped, is_stuck, run
from ridesonce.towns import Town


def town_of(a, b, *rides):
    """A town of two stations, each told by its docks and bikes."""
    return Town([("a", *a), ("b", *b)], list(rides))


class AbleTest(unittest.TestCase):
    def able(self, a, b, start, goal, kept):
        return able(town_of(a, b, ("r", start, goal, kept))) == ["r"]

    def test_kept_ride_needs_a_bike_and_a_free_dock(self):
        self.assertTrue(self.able((2, 1), (2, 1), "a", "b", True))
        self.assertFalse(self.able((2, 0), (2, 1), "a", "b", True))
        self.assertFalse(self.able((2, 1), (2, 2), "a", "b", True))
        self.assertFalse(self.able((2, 0), (2, 2), "a", "b", True))

    def test_unkept_ride_needs_a_bike_alone(self):
        self.assertTrue(self.able((2, 1), (2, 2), "a", "b", False))
        self.assertFalse(self.able((2, 0), (2, 0), "a", "b", False))

    def test_street_needs_nothing(self):
        self.assertTrue(self.able((2, 0), (2, 1), "street", "b", True))
        self.assertFalse(self.able((2, 0), (2, 2), "street", "b", True))
        self.assertTrue(self.able((2, 1), (2, 2), "a", "street", True))
        self.assertFalse(self.able((2, 0), (2, 2), "a", "street", True))

    def test_names_in_town_order(self):
        town = town_of((2, 1), (2, 1), ("z", "a", "b", True), ("b", "b", "a", False), ("a", "a", "street", True))
        self.assertEqual(able(town), ["z", "b", "a"])
        self.assertEqual(able(dry()), ["r3"])
        self.assertEqual(able(Town.empty()), [])


class GoTest(unittest.TestCase):
    def test_kept_ride(self):
        town = go(town_of((2, 1), (3, 1), ("q", "a", "b", True), ("r", "a", "b", True), ("s", "b", "a", True)), "r")
        self.assertEqual(town.stations, (("a", 2, 0), ("b", 3, 2)))
        self.assertEqual(town.rides, (("q", "a", "b", True), ("s", "b", "a", True)))

    def test_street(self):
        town = town_of((2, 1), (2, 1), ("r", "street", "a", True), ("q", "b", "street", True))
        self.assertEqual(go(town, "r").stations, (("a", 2, 2), ("b", 2, 1)))
        self.assertEqual(go(town, "q").stations, (("a", 2, 1), ("b", 2, 0)))

    def test_unkept_ride_is_on_the_road_and_waits_for_a_dock(self):
        town = town_of((2, 1), (1, 1), ("q", "b", "a", True), ("r", "a", "b", False), ("s", "b", "a", True))
        road = go(town, "r")
        self.assertEqual(road.stations, (("a", 2, 0), ("b", 1, 1)))
        self.assertEqual(road.rides, (("q", "b", "a", True), ("r", "street", "b", True), ("s", "b", "a", True)))
        self.assertEqual(error_of(go, road, "r"), ("CannotGo", "r"))
        done = run(road, ["s", "r"])
        self.assertEqual(rows(done), ((("a", 2, 1), ("b", 1, 1)), (("q", "b", "a", True),)))

    def test_errors(self):
        self.assertEqual(error_of(go, dry(), "r1"), ("CannotGo", "r1"))
        self.assertEqual(error_of(go, dry(), "a"), ("UnknownRide", "a"))
        self.assertEqual(error_of(go, dry(), "street"), ("UnknownRide", "street"))
        self.assertEqual(error_of(go, Town.empty(), ""), ("UnknownRide", ""))

    def test_the_town_stays_as_it_was(self):
        town = dry()
        go(town, "r3")
        self.assertEqual(rows(town), rows(dry()))


class RunTest(unittest.TestCase):
    def test_no_step(self):
        self.assertEqual(rows(run(dry(), [])), rows(dry()))

    def test_complete_order_has_as_many_steps_as_passes(self):
        self.assertEqual(run(dry(), ["r3", "r1", "r2", "r4"]).rides, ())
        town = town_of((2, 1), (1, 1), ("r", "a", "b", False), ("q", "b", "a", True))
        self.assertEqual(town.passes(), 3)
        self.assertEqual(run(town, ["r", "q", "r"]).rides, ())

    def test_error_of_the_first_step_that_cannot_be_made(self):
        self.assertEqual(error_of(run, dry(), ["r3", "r3", "x"]), ("UnknownRide", "r3"))
        self.assertEqual(error_of(run, dry(), ["r3", "r2", "x"]), ("CannotGo", "r2"))
        self.assertEqual(error_of(run, dry(), ["x", "r2"]), ("UnknownRide", "x"))
        self.assertEqual(error_of(run, brim(), ["r3", "r4", "r4"]), ("UnknownRide", "r4"))

    def test_the_list_stays_as_it_was(self):
        order = ["r3", "r1"]
        run(dry(), order)
        self.assertEqual(order, ["r3", "r1"])

    def test_against_other_code(self):
        for town in random_towns(150):
            for state, order in reached_states(town).items():
                after = run(town, order)
                self.assertEqual(state_of(after), state)
                self.assertEqual(able(after), [name for name, _ in moves(town, state)])


class StoppedTest(unittest.TestCase):
    def told(self, town):
        return (is_stopped(town), is_stuck(town))

    def test_stopped_and_stuck(self):
        self.assertEqual(self.told(dry()), (False, False))
        self.assertEqual(self.told(run(dry(), ["r3", "r4"])), (True, True))
        self.assertEqual(self.told(run(dry(), ["r3", "r1", "r2", "r4"])), (True, False))
        self.assertEqual(self.told(Town.empty()), (True, False))
        self.assertEqual(self.told(town_of((1, 1), (1, 1), ("r", "a", "b", True))), (True, True))
        self.assertEqual(self.told(town_of((1, 1), (1, 1), ("r", "a", "b", False))), (False, False))

    def test_values_are_true_and_false(self):
        for town in (dry(), Town.empty(), run(dry(), ["r3", "r4"])):
            for value in self.told(town):
                self.assertIs(type(value), bool)


if __name__ == "__main__":
    unittest.main()
