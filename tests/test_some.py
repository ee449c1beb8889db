"""Whether everybody can ride in some order ([25], [26])."""

import unittest

from helper import brim, dry, error_of, fair_towns, has_complete, left_after, moves, state_of
from ridesonce.lots import dead_lots
from ridesonce.some import some, wise_rides
from ridesonce.steps import able, go, run
from ridesonce.towns import Town


def dead_town():
    """A fair town with two dead lots and one that is not dead."""
    stations = [("a", 1, 1), ("b", 1, 1), ("c", 2, 0), ("d", 2, 0), ("e", 2, 1), ("f", 2, 1)]
    rides = [("r0", "e", "f", True), ("r1", "c", "d", False), ("r2", "a", "b", True), ("r3", "d", "c", True),
             ("r4", "b", "a", True)]
    return Town(stations, rides)


class SomeTest(unittest.TestCase):
    def test_examples(self):
        self.assertEqual(some(dry())[0], "yes")
        self.assertEqual(left_after(dry(), some(dry())[1]), [])
        self.assertEqual(some(run(dry(), ["r3", "r4"])), ("no", "empty", ["r1", "r2"]))
        self.assertEqual(some(Town.empty()), ("yes", []))
        self.assertEqual(left_after(brim(), some(brim())[1]), [])

    def test_first_dead_lot(self):
        self.assertEqual(some(dead_town()), ("no", "empty", ["r1", "r3"]))
        self.assertEqual(some(dead_town().without(["r1", "r3"])), ("no", "full", ["r2", "r4"]))
        self.assertEqual(some(dead_town().only(["r0"])), ("yes", ["r0"]))

    def test_unkept_rides_go_twice(self):
        town = Town([("a", 1, 1), ("b", 1, 1)], [("r", "a", "b", False), ("q", "b", "a", True)])
        self.assertEqual(some(town), ("yes", ["r", "q", "r"]))
        road = go(town, "r")
        self.assertEqual(some(road), ("yes", ["q", "r"]))

    def test_unfair(self):
        self.assertEqual(error_of(some, dry().without(["r3"])), ("NotFair", "a", -1))
        dead = Town([("a", 2, 0), ("b", 2, 0)], [("r", "a", "b", True)])
        self.assertEqual(error_of(some, dead), ("NotFair", "a", -1))
        self.assertEqual(error_of(wise_rides, dead), ("NotFair", "a", -1))

    def test_against_all_orders(self):
        words = {"yes": 0, "no": 0}
        for town in fair_towns(1500, 51):
            told = some(town)
            words[told[0]] += 1
            self.assertEqual(told[0] == "yes", has_complete(town))
            if told[0] == "yes":
                self.assertEqual(left_after(town, told[1]), [])
                self.assertEqual(len(told[1]), town.passes())
            else:
                self.assertEqual(told[1:], dead_lots(town)[0])
        self.assertGreater(words["no"], 5)


class WiseTest(unittest.TestCase):
    def test_examples(self):
        self.assertEqual(wise_rides(dry()), ["r3"])
        self.assertEqual(wise_rides(go(dry(), "r3")), ["r1"])
        self.assertEqual(able(go(dry(), "r3")), ["r1", "r4"])
        self.assertEqual(wise_rides(Town.empty()), [])

    def test_none_while_a_lot_is_dead(self):
        self.assertEqual(able(dead_town()), ["r0"])
        self.assertEqual(wise_rides(dead_town()), [])

    def test_town_order(self):
        town = Town([("a", 5, 2), ("b", 5, 2)], [("z", "b", "a", True), ("y", "a", "b", False), ("x", "a", "b", True)])
        self.assertEqual(wise_rides(town), ["z", "y", "x"])

    def test_exactly_what_a_complete_order_begins_with(self):
        unwise = 0
        for town in fair_towns(700, 52):
            expected = []
            for name, (bikes, rides) in moves(town, state_of(town)):
                stations = [(row[0], row[1], number) for row, number in zip(town.stations, bikes)]
                if has_complete(Town(stations, list(rides))):
                    expected.append(name)
            self.assertEqual(wise_rides(town), expected)
            unwise += len(able(town)) - len(expected)
            if town.rides and not dead_lots(town):
                self.assertNotEqual(expected, [])
        self.assertGreater(unwise, 5)

    def test_any_wise_rides_bring_everybody_home(self):
        for town in fair_towns(200, 53):
            alive = not dead_lots(town)
            for at in (0, -1):
                now = town
                while wise_rides(now):
                    now = go(now, wise_rides(now)[at])
                self.assertEqual(now.rides == (), alive or town.rides == ())


if __name__ == "__main__":
    unittest.main()
