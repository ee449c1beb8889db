"""Towns: names, faults and their order, what a town tells ([4] to [8])."""

import unittest

from helper import BRIM_RIDES, DRY_RIDES, DRY_STATIONS, brim, dry, error_of, names_of, rows
from ridesonce.towns import Town


def fault(stations, rides=()):
    return error_of(Town, list(stations), list(rides))


def stations_of(number):
    return [(f"s{at}", 2, 1) for at in range(number)]


def rides_of(number):
    return [(f"r{at}", "s0", "s1", True) for at in range(number)]


class NamesTest(unittest.TestCase):
    GOOD = ("a", "z", "a0", "z9", "north", "abcdefgh", "a1234567", "streets", "stree", "station", "r1")
    BAD = ("", "abcdefghi", "a12345678", "0a", "9", "A", "aB", "a_", "_a", "a b", " a", "a ", "a-b", "street", "a\n",
           "\n", "a.b", "~", "STREET")

    def test_names_of_stations(self):
        for name in self.GOOD:
            self.assertIsNone(fault([(name, 1, 0)]), name)
        for name in self.BAD:
            self.assertEqual(fault([(name, 1, 0)]), ("BadName", name))

    def test_names_of_rides(self):
        for name in self.GOOD:
            self.assertIsNone(fault(stations_of(2), [(name, "s0", "s1", True)]), name)
        for name in self.BAD:
            self.assertEqual(fault(stations_of(2), [(name, "s0", "s1", True)]), ("BadName", name))

    def test_a_station_and_a_ride_may_have_one_name(self):
        town = Town([("a", 1, 1), ("b", 1, 0)], [("a", "a", "b", True), ("b", "b", "a", True)])
        self.assertEqual(town.ride("a"), ("a", "a", "b", True))
        self.assertEqual(town.bikes("a"), 1)


class StationFaultsTest(unittest.TestCase):
    def test_docks_and_bikes_in_their_limits(self):
        for docks, bikes in ((1, 0), (1, 1), (999999, 0), (999999, 999999), (5, 3)):
            self.assertIsNone(fault([("a", docks, bikes)]))

    def test_docks_beyond_their_limits(self):
        for docks in (0, -1, 1000000, 10 ** 20):
            self.assertEqual(fault([("a", docks, 0)]), ("BadNumber", docks))

    def test_bikes_beyond_their_limits(self):
        for docks, bikes in ((1, 2), (1, -1), (999999, 1000000), (5, 6)):
            self.assertEqual(fault([("a", docks, bikes)]), ("BadNumber", bikes))

    def test_twelve_stations_and_thirteen(self):
        self.assertEqual(len(Town(stations_of(12), []).stations), 12)
        self.assertEqual(fault(stations_of(13)), ("TooLarge", 13))
        self.assertEqual(fault(stations_of(40)), ("TooLarge", 40))

    def test_duplicate(self):
        self.assertEqual(fault([("a", 1, 0), ("b", 1, 0), ("a", 2, 0)]), ("Duplicate", "a"))

    def test_each_station_is_looked_at_completely_before_the_next(self):
        self.assertEqual(fault([("a", 1, 2), ("B", 1, 0)]), ("BadNumber", 2))
        self.assertEqual(fault([("a", 0, 2), ("a", 1, 0)]), ("BadNumber", 0))
        self.assertEqual(fault([("a", 1, 0), ("a", 0, 0), ("B", 1, 0)]), ("Duplicate", "a"))

    def test_order_within_a_station(self):
        self.assertEqual(fault([("A", 0, 5)]), ("BadName", "A"))
        self.assertEqual(fault([("A", 1, 0), ("A", 0, 5)]), ("BadName", "A"))
        self.assertEqual(fault([("a", 1, 0), ("a", 0, 5)]), ("Duplicate", "a"))
        self.assertEqual(fault([("a", 0, 5)]), ("BadNumber", 0))
        self.assertEqual(fault([("a", 1000000, -5)]), ("BadNumber", 1000000))


class RideFaultsTest(unittest.TestCase):
    def fault(self, *rides):
        return fault(stations_of(3), rides)

    def test_24_rides_and_25(self):
        self.assertEqual(len(Town(stations_of(2), rides_of(24)).rides), 24)
        self.assertEqual(fault(stations_of(2), rides_of(25)), ("TooLarge", 25))

    def test_counts_come_before_all_else(self):
        self.assertEqual(fault([("A", 0, 0)] * 13, [("B", "x", "x", False)] * 25), ("TooLarge", 13))
        self.assertEqual(fault([("A", 0, 0)] * 12, [("B", "x", "x", False)] * 26), ("TooLarge", 26))

    def test_stations_come_before_rides(self):
        self.assertEqual(fault([("a", 1, 2)], [("B", "x", "x", False)]), ("BadNumber", 2))

    def test_street_in_each_role(self):
        self.assertIsNone(self.fault(("r", "street", "s0", True), ("q", "s0", "street", True)))
        self.assertEqual(self.fault(("r", "street", "s0", False)), ("NotKept", "r"))
        self.assertEqual(self.fault(("r", "s0", "street", False)), ("NotKept", "r"))
        self.assertEqual(self.fault(("r", "street", "street", True)), ("SameEnds", "r"))
        self.assertEqual(self.fault(("r", "street", "street", False)), ("SameEnds", "r"))
        self.assertEqual(fault([("street", 1, 0)]), ("BadName", "street"))
        self.assertEqual(self.fault(("street", "s0", "s1", True)), ("BadName", "street"))

    def test_unknown_places(self):
        self.assertEqual(self.fault(("r", "x", "s0", True)), ("UnknownStation", "x"))
        self.assertEqual(self.fault(("r", "s0", "x", True)), ("UnknownStation", "x"))
        self.assertEqual(self.fault(("r", "x", "y", True)), ("UnknownStation", "x"))
        self.assertEqual(self.fault(("r", "x", "x", True)), ("UnknownStation", "x"))
        self.assertEqual(self.fault(("r", "street", "", True)), ("UnknownStation", ""))
        self.assertEqual(fault([], [("r", "a", "street", True)]), ("UnknownStation", "a"))

    def test_same_ends(self):
        self.assertEqual(self.fault(("r", "s1", "s1", True)), ("SameEnds", "r"))
        self.assertEqual(self.fault(("r", "s1", "s1", False)), ("SameEnds", "r"))

    def test_duplicate(self):
        self.assertEqual(self.fault(("r", "s0", "s1", True), ("r", "s1", "s0", True)), ("Duplicate", "r"))

    def test_order_within_a_ride(self):
        good = ("r", "s0", "s1", True)
        self.assertEqual(self.fault(good, ("R", "x", "x", False)), ("BadName", "R"))
        self.assertEqual(self.fault(good, ("r", "x", "x", False)), ("Duplicate", "r"))
        self.assertEqual(self.fault(good, ("q", "x", "street", False)), ("UnknownStation", "x"))
        self.assertEqual(self.fault(good, ("q", "street", "x", False)), ("UnknownStation", "x"))

    def test_each_ride_is_looked_at_completely_before_the_next(self):
        self.assertEqual(self.fault(("q", "street", "s0", False), ("R", "s0", "s1", True)), ("NotKept", "q"))
        self.assertEqual(self.fault(("q", "s0", "s0", True), ("q", "s0", "s1", True)), ("SameEnds", "q"))

    def test_two_rides_may_have_the_same_ends(self):
        self.assertIsNone(self.fault(("r", "s0", "s1", True), ("q", "s0", "s1", True), ("p", "s0", "s1", False)))


class TellingTest(unittest.TestCase):
    def test_attributes(self):
        self.assertEqual(dry().stations, tuple(DRY_STATIONS))
        self.assertEqual(dry().rides, tuple(DRY_RIDES))
        backwards = Town(DRY_STATIONS[::-1], DRY_RIDES[::-1])
        self.assertEqual(rows(backwards), (tuple(DRY_STATIONS[::-1]), tuple(DRY_RIDES[::-1])))

    def test_class_values(self):
        self.assertEqual((Town.MOST_STATIONS, Town.MOST_RIDES, Town.MOST_DOCKS), (12, 24, 999999))

    def test_empty(self):
        self.assertEqual(rows(Town.empty()), ((), ()))
        self.assertEqual(Town.empty().passes(), 0)
        self.assertIsInstance(Town.empty(), Town)

    def test_numbers_of_a_station(self):
        town = Town([("a", 5, 2), ("b", 1, 1)], [])
        self.assertEqual([town.docks("a"), town.bikes("a"), town.free("a")], [5, 2, 3])
        self.assertEqual([town.docks("b"), town.bikes("b"), town.free("b")], [1, 1, 0])

    def test_numbers_of_no_station(self):
        for name in ("street", "x", "r1", ""):
            for call in (dry().docks, dry().bikes, dry().free):
                self.assertEqual(error_of(call, name), ("UnknownStation", name))

    def test_ride_and_position(self):
        self.assertEqual(dry().ride("r3"), ("r3", "c", "a", True))
        self.assertEqual([dry().position(name) for name in ("r1", "r2", "r3", "r4")], [0, 1, 2, 3])
        for name in ("a", "r5", "street", ""):
            self.assertEqual(error_of(dry().ride, name), ("UnknownRide", name))
            self.assertEqual(error_of(dry().position, name), ("UnknownRide", name))

    def test_passes(self):
        self.assertEqual(dry().passes(), 4)
        self.assertEqual(dry().with_ride("r5", "a", "b", kept=False).passes(), 6)
        unkept = [(f"r{at}", "s0", "s1", False) for at in range(24)]
        self.assertEqual(Town(stations_of(2), unkept).passes(), 48)


class OtherTownsTest(unittest.TestCase):
    def test_only_and_without_in_town_order(self):
        self.assertEqual(names_of(dry().only(["r4", "r1"])), ["r1", "r4"])
        self.assertEqual(names_of(dry().without(["r4", "r1"])), ["r2", "r3"])
        self.assertEqual(dry().only(["r4"]).stations, tuple(DRY_STATIONS))
        self.assertEqual(dry().without(["r4"]).stations, tuple(DRY_STATIONS))

    def test_only_and_without_of_nothing_and_of_all(self):
        everything = ["r1", "r2", "r3", "r4"]
        self.assertEqual(names_of(dry().only([])), [])
        self.assertEqual(names_of(dry().only(everything)), everything)
        self.assertEqual(names_of(dry().without([])), everything)
        self.assertEqual(names_of(dry().without(everything)), [])

    def test_a_name_may_occur_several_times(self):
        self.assertEqual(names_of(dry().only(["r2", "r1", "r2"])), ["r1", "r2"])
        self.assertEqual(names_of(dry().without(["r2", "r1", "r2"])), ["r3", "r4"])

    def test_first_unknown_name(self):
        for call in (dry().only, dry().without):
            self.assertEqual(error_of(call, ["r1", "y", "x", "r2"]), ("UnknownRide", "y"))
            self.assertEqual(error_of(call, ["a"]), ("UnknownRide", "a"))
        self.assertEqual(error_of(Town.empty().without, ["x"]), ("UnknownRide", "x"))

    def test_with_ride(self):
        self.assertEqual(dry().with_ride("r5", "a", "street").rides, (*DRY_RIDES, ("r5", "a", "street", True)))
        self.assertEqual(dry().with_ride("r5", "a", "b", kept=False).ride("r5"), ("r5", "a", "b", False))
        self.assertEqual(dry().with_ride("r5", "a", "b").stations, tuple(DRY_STATIONS))

    def test_errors_of_with_ride(self):
        call = dry().with_ride
        self.assertEqual(error_of(call, "R", "x", "x"), ("BadName", "R"))
        self.assertEqual(error_of(call, "r1", "x", "x"), ("Duplicate", "r1"))
        self.assertEqual(error_of(call, "r5", "x", "y"), ("UnknownStation", "x"))
        self.assertEqual(error_of(call, "r5", "a", "y"), ("UnknownStation", "y"))
        self.assertEqual(error_of(call, "r5", "a", "a"), ("SameEnds", "r5"))
        self.assertEqual(error_of(call, "r5", "a", "street", kept=False), ("NotKept", "r5"))
        full = Town(stations_of(2), rides_of(24))
        self.assertEqual(error_of(full.with_ride, "R", "x", "x"), ("TooLarge", 25))
        self.assertRaises(TypeError, call, "r5", "a", "b", False)

    def test_with_bikes(self):
        town = brim().with_bikes("b", 0)
        self.assertEqual(town.stations, (("a", 1, 1), ("b", 1, 0), ("c", 1, 0)))
        self.assertEqual(town.bikes("b"), 0)
        self.assertEqual(town.rides, tuple(BRIM_RIDES))
        self.assertEqual(dry().with_bikes("a", 2).free("a"), 0)

    def test_errors_of_with_bikes(self):
        self.assertEqual(error_of(dry().with_bikes, "street", 99), ("UnknownStation", "street"))
        self.assertEqual(error_of(dry().with_bikes, "x", -1), ("UnknownStation", "x"))
        self.assertEqual(error_of(dry().with_bikes, "a", 3), ("BadNumber", 3))
        self.assertEqual(error_of(dry().with_bikes, "a", -1), ("BadNumber", -1))

    def test_the_town_itself_stays_as_it_was(self):
        town = dry()
        town.only(["r1"])
        town.without(["r1"])
        town.with_ride("r5", "a", "b")
        town.with_bikes("a", 1)
        self.assertEqual(rows(town), rows(dry()))
        self.assertEqual(town.bikes("a"), 0)
        self.assertEqual(error_of(town.ride, "r5"), ("UnknownRide", "r5"))


if __name__ == "__main__":
    unittest.main()
