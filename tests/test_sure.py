"""Who surely rides, and why ([24])."""

import unittest

from helper import brim, dry, error_of, fair_towns, inside, is_ring, left_after, left_lists, names_of
from ridesonce.sure import sure_riders, why
from ridesonce.towns import Town


def reached(town, ride, kind):
    """The stations that a ride leads to inside a kind, grown station by station."""
    rides = inside(town, kind)
    if ride not in rides:
        return []
    found = {ride[2]}
    for _ in town.stations:
        found |= {other[2] for other in rides if other[1] in found}
    return [station[0] for station in town.stations if station[0] in found]


class SureTest(unittest.TestCase):
    def test_examples(self):
        self.assertEqual(sure_riders(dry()), ["r3", "r4"])
        self.assertEqual(sure_riders(brim()), ["r3", "r4"])
        self.assertEqual(sure_riders(Town.empty()), [])
        self.assertEqual(sure_riders(dry().without(["r4"])), ["r1", "r2", "r3"])

    def test_against_all_orders(self):
        for town in fair_towns(500, 41):
            left = {name for names in left_lists(town) for name in names}
            self.assertEqual(sure_riders(town), [name for name in names_of(town) if name not in left])


class WhyTest(unittest.TestCase):
    def test_examples(self):
        self.assertEqual(why(brim(), "r3"), ("sure", [], []))
        self.assertEqual(why(brim(), "r2"), ("unsure", "full", ["r2", "r1"], ["r3", "r4"]))
        self.assertEqual(why(dry(), "r1"), ("unsure", "empty", ["r1", "r2"], ["r3", "r4"]))

    def test_unknown_ride(self):
        for name in ("x", "a", "street", ""):
            self.assertEqual(error_of(why, dry(), name), ("UnknownRide", name))
        self.assertEqual(error_of(why, Town.empty(), "x"), ("UnknownRide", "x"))

    def test_unfair_comes_first(self):
        self.assertEqual(error_of(why, dry().without(["r3"]), "x"), ("NotFair", "a", -1))
        self.assertEqual(error_of(why, dry().without(["r3"]), "r1"), ("NotFair", "a", -1))

    def test_below_in_town_order_with_unkept_rides(self):
        # d, c, b, a and e are empty in the end, f is not.
        stations = [("e", 3, 1), ("d", 3, 0), ("c", 3, 0), ("b", 3, 0), ("a", 3, 2), ("f", 3, 1)]
        rides = [("r0", "a", "b", True), ("r1", "b", "c", False), ("r2", "a", "d", True), ("r3", "d", "c", True),
                 ("r4", "c", "street", True), ("r5", "c", "street", True), ("r6", "e", "f", True)]
        town = Town(stations, rides)
        self.assertEqual(why(town, "r0"), ("sure", ["c", "b"], []))
        self.assertEqual(why(town, "r1"), ("sure", ["c"], []))
        self.assertEqual(why(town, "r2"), ("sure", ["d", "c"], []))
        self.assertEqual(why(town, "r4"), ("sure", [], []))
        self.assertEqual(why(town, "r6"), ("sure", [], []))
        self.assertEqual(why(town.with_ride("r7", "e", "f").with_bikes("e", 2), "r7"), ("sure", [], []))

    def test_above_with_kept_rides_alone(self):
        stations = [("d", 3, 2), ("c", 3, 3), ("b", 3, 3), ("a", 3, 3)]
        rides = [("r0", "a", "b", True), ("r1", "b", "c", True), ("r2", "c", "d", False), ("r3", "street", "a", True)]
        town = Town(stations, rides)
        self.assertEqual(why(town, "r0"), ("sure", [], ["c", "b"]))
        self.assertEqual(why(town, "r1"), ("sure", [], ["c"]))
        self.assertEqual(why(town, "r2"), ("sure", [], []))
        self.assertEqual(why(town, "r3"), ("sure", [], []))
        kept = Town(stations, rides[:2] + [("r2", "c", "d", True)] + rides[3:])
        self.assertEqual(why(kept, "r0"), ("sure", [], ["d", "c", "b"]))

    def test_a_sure_ride_beside_a_ring(self):
        town = Town([("a", 2, 1), ("b", 2, 0), ("c", 2, 0)],
                    [("r0", "a", "b", True), ("r1", "b", "c", True), ("r2", "c", "b", True),
                     ("r3", "b", "street", True)])
        self.assertEqual(why(town, "r0"), ("sure", ["b", "c"], []))
        word, kind, ring, order = why(town, "r2")
        self.assertEqual((word, kind, ring), ("unsure", "empty", ["r2", "r1"]))
        self.assertEqual(left_after(town, order), ["r1", "r2"])

    def test_the_ring_contains_the_ride_itself_not_one_like_it(self):
        town = Town([("a", 2, 0), ("b", 2, 0)],
                    [("r0", "a", "b", True), ("r1", "a", "b", False), ("r2", "b", "a", True), ("r3", "b", "a", True)])
        for name, rings in (("r1", (["r1", "r2"], ["r1", "r3"])), ("r3", (["r3", "r0"], ["r3", "r1"]))):
            word, kind, ring, order = why(town, name)
            self.assertEqual((word, kind), ("unsure", "empty"))
            self.assertIn(ring, rings)
            self.assertTrue(set(ring) <= set(left_after(town, order)))

    def test_against_all_orders(self):
        words = {"sure": 0, "unsure": 0}
        for town in fair_towns(500, 42):
            surely = sure_riders(town)
            for ride in town.rides:
                told = why(town, ride[0])
                words[told[0]] += 1
                self.assertEqual(told[0] == "sure", ride[0] in surely)
                if told[0] == "sure":
                    self.assertEqual(told[1:], (reached(town, ride, "empty"), reached(town, ride, "full")))
                    self.assertFalse(ride[1] in told[1] + told[2])
                    continue
                _, kind, ring, order = told
                self.assertEqual(ring[0], ride[0])
                self.assertTrue(is_ring(town, kind, ring))
                self.assertTrue(set(ring) <= set(left_after(town, order)))
        self.assertGreater(words["unsure"], 100)


if __name__ == "__main__":
    unittest.main()
