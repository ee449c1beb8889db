"""Lots and dead lots ([16])."""

import unittest

from helper import dry, end_numbers, names_of, random_towns, reached_states
from ridesonce.lots import dead_lots, lots
from ridesonce.steps import go, run
from ridesonce.towns import Town


def kept(name, start, goal):
    return (name, start, goal, True)


def slow_lots(town):
    """The lots by growing a set of names from each ride."""
    places = {ride[0]: set(ride[1:3]) - {"street"} for ride in town.rides}
    found = []
    for name in names_of(town):
        lot = {name}
        for _ in names_of(town):
            near = set().union(*(places[one] for one in lot))
            lot |= {one for one in names_of(town) if places[one] & near}
        row = [one for one in names_of(town) if one in lot]
        if row not in found:
            found.append(row)
    return found


def slow_kind(town, lot):
    rides = [town.ride(name) for name in lot]
    if any("street" in ride[1:3] for ride in rides):
        return None
    numbers = [(town.bikes(place), town.free(place), ride[3]) for ride in rides for place in ride[1:3]]
    if all(bikes == 0 for bikes, _, _ in numbers):
        return "empty"
    return "full" if all(free == 0 and is_kept for _, free, is_kept in numbers) else None


class LotsTest(unittest.TestCase):
    STATIONS = [(name, 2, 1) for name in "abcdef"]

    def test_rides_with_a_common_station_are_linked(self):
        town = Town(self.STATIONS, [kept("r", "a", "b"), kept("q", "c", "d"), kept("p", "d", "e"), kept("o", "b", "f")])
        self.assertEqual(lots(town), [["r", "o"], ["q", "p"]])

    def test_a_late_ride_joins_two_lots(self):
        rides = [kept("r4", "a", "b"), kept("r3", "c", "d"), kept("r2", "b", "a"), kept("r1", "d", "a"),
                 kept("r0", "f", "e")]
        self.assertEqual(lots(Town(self.STATIONS, rides)), [["r4", "r3", "r2", "r1"], ["r0"]])

    def test_the_street_links_nothing(self):
        rides = [kept("r", "a", "street"), kept("q", "street", "b"), kept("p", "b", "street"), kept("o", "c", "street")]
        self.assertEqual(lots(Town(self.STATIONS, rides)), [["r"], ["q", "p"], ["o"]])

    def test_no_rides(self):
        self.assertEqual(lots(Town.empty()), [])
        self.assertEqual(lots(Town(self.STATIONS, [])), [])
        self.assertEqual(dead_lots(Town(self.STATIONS, [])), [])

    def test_against_other_code(self):
        for town in random_towns(400, 3, most_stations=7):
            self.assertEqual(lots(town), slow_lots(town))
            expected = [(slow_kind(town, lot), lot) for lot in slow_lots(town)]
            self.assertEqual(dead_lots(town), [pair for pair in expected if pair[0] is not None])


class DeadTest(unittest.TestCase):
    STATIONS = [("a", 2, 0), ("b", 2, 0), ("c", 1, 1), ("d", 3, 3), ("e", 2, 1)]

    def dead(self, *rides):
        return dead_lots(Town(self.STATIONS, list(rides)))

    def test_empty(self):
        self.assertEqual(self.dead(kept("r", "a", "b")), [("empty", ["r"])])
        self.assertEqual(self.dead(("r", "a", "b", False)), [("empty", ["r"])])
        self.assertEqual(self.dead(kept("r", "a", "e")), [])
        self.assertEqual(self.dead(kept("r", "a", "c")), [])

    def test_full(self):
        self.assertEqual(self.dead(kept("r", "c", "d")), [("full", ["r"])])
        self.assertEqual(self.dead(("r", "c", "d", False)), [])
        self.assertEqual(self.dead(kept("r", "c", "d"), ("q", "d", "c", False)), [])
        self.assertEqual(self.dead(kept("r", "c", "e")), [])

    def test_a_street_ride_keeps_a_lot_alive(self):
        self.assertEqual(self.dead(kept("r", "a", "b"), kept("q", "street", "a")), [])
        self.assertEqual(self.dead(kept("r", "a", "b"), kept("q", "a", "street")), [])
        self.assertEqual(self.dead(kept("r", "c", "d"), kept("q", "d", "street")), [])
        self.assertEqual(self.dead(kept("r", "c", "d"), kept("q", "street", "d")), [])
        self.assertEqual(self.dead(kept("r", "a", "street")), [])
        self.assertEqual(self.dead(kept("r", "street", "c")), [])

    def test_a_rider_on_the_road_keeps_a_lot_alive(self):
        town = Town([("a", 1, 1), ("b", 1, 0)], [("r", "a", "b", False), kept("q", "b", "a")])
        self.assertEqual(dead_lots(go(town, "r")), [])
        self.assertEqual(lots(go(town, "r")), [["r", "q"]])

    def test_as_the_town_stands_not_in_the_end(self):
        self.assertEqual(dead_lots(dry()), [])
        self.assertEqual(dead_lots(run(dry(), ["r3", "r4"])), [("empty", ["r1", "r2"])])

    def test_order_of_lots(self):
        rides = [kept("z", "d", "c"), kept("y", "a", "b"), kept("x", "c", "d")]
        self.assertEqual(self.dead(*rides), [("full", ["z", "x"]), ("empty", ["y"])])

    def test_unfair_towns(self):
        rides = [kept(f"r{at}", "a", "b") for at in range(4)] + [kept("q", "c", "d")]
        self.assertEqual(self.dead(*rides), [("empty", ["r0", "r1", "r2", "r3"]), ("full", ["q"])])

    def test_no_ride_of_a_dead_lot_ever_goes(self):
        seen = 0
        for town in random_towns(400, 5):
            names = [name for _, lot in dead_lots(town) for name in lot]
            seen += len(names)
            for order in reached_states(town).values():
                self.assertFalse(set(order) & set(names))
        self.assertGreater(seen, 20)
        self.assertEqual(end_numbers(dry()), {"a": 0, "b": 0, "c": 1})


if __name__ == "__main__":
    unittest.main()
