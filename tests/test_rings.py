"""Rings and bad rings ([20], [21])."""

import unittest

from helper import all_rings, brim, dry, error_of, fair_towns, is_ring, left_lists, rows
from ridesonce.rings import bad_rings, is_bad_ring
from ridesonce.towns import Town


def ring_town(number, rides, *, docks=2, bikes=0):
    """Stations a, b, c .. of one kind; the rides are told by name, ends and kept."""
    stations = [("abcdefgh"[at], docks, bikes) for at in range(number)]
    return Town(stations, [(name, ends[0], ends[1], kept) for name, ends, kept in rides])


def both_kinds():
    """A town with rings of both kinds, two of which share a station."""
    stations = [("f", 1, 1), ("g", 2, 2), ("e", 2, 0), ("h", 2, 0), ("i", 2, 0)]
    rides = [("r0", "f", "g", True), ("r1", "g", "f", True), ("r2", "i", "e", False), ("r3", "e", "h", True),
             ("r4", "h", "e", True), ("r5", "e", "i", True)]
    return Town(stations, rides)


class BadRingsTest(unittest.TestCase):
    def test_examples(self):
        self.assertEqual(list(bad_rings(brim())), [("full", ["r1", "r2"])])
        self.assertEqual(list(bad_rings(dry())), [("empty", ["r1", "r2"])])
        self.assertEqual(list(bad_rings(Town.empty())), [])
        self.assertEqual(list(bad_rings(dry().without(["r4"]))), [])

    def test_empty_rings_come_first(self):
        expected = [("empty", ["r2", "r5"]), ("empty", ["r3", "r4"]), ("full", ["r0", "r1"])]
        self.assertEqual(list(bad_rings(both_kinds())), expected)

    def test_begins_with_the_first_ride_and_follows_the_ring(self):
        town = ring_town(3, [("r0", "bc", True), ("r1", "ab", True), ("r2", "ca", True)])
        self.assertEqual(list(bad_rings(town)), [("empty", ["r0", "r2", "r1"])])

    def test_fewer_rides_come_first_then_positions(self):
        rides = [("r0", "ab", True), ("r1", "bc", True), ("r2", "ca", True), ("r3", "cb", True), ("r4", "ba", True),
                 ("r5", "ac", True)]
        expected = [["r0", "r4"], ["r1", "r3"], ["r2", "r5"], ["r0", "r1", "r2"], ["r3", "r4", "r5"]]
        self.assertEqual([names for _, names in bad_rings(ring_town(3, rides))], expected)

    def test_two_rides_with_the_same_ends(self):
        rides = [("r0", "ba", True), ("r1", "ab", True), ("r2", "ab", False), ("r3", "ba", False)]
        expected = [["r0", "r1"], ["r0", "r2"], ["r1", "r3"], ["r2", "r3"]]
        self.assertEqual([names for _, names in bad_rings(ring_town(2, rides))], expected)

    def test_a_station_is_the_start_of_one_ride_alone(self):
        rides = [("r0", "ab", True), ("r1", "ba", True), ("r2", "bc", True), ("r3", "cb", True)]
        self.assertEqual([names for _, names in bad_rings(ring_town(3, rides))], [["r0", "r1"], ["r2", "r3"]])

    def test_unkept_rides_are_in_empty_rings_alone(self):
        rides = [("r0", "ab", True), ("r1", "ba", False)]
        self.assertEqual(list(bad_rings(ring_town(2, rides))), [("empty", ["r0", "r1"])])
        self.assertEqual(list(bad_rings(ring_town(2, rides, bikes=2))), [])
        rides = [("r0", "ab", True), ("r1", "ba", True)]
        self.assertEqual(list(bad_rings(ring_town(2, rides, bikes=2))), [("full", ["r0", "r1"])])

    def test_a_ring_needs_one_kind_at_all_its_stations(self):
        rides = [("r0", "a", "b", True), ("r1", "b", "a", True)]
        for bikes in ((0, 1), (1, 1), (2, 0), (2, 1)):
            town = Town([("a", 2, bikes[0]), ("b", 2, bikes[1])], rides)
            self.assertEqual(list(bad_rings(town)), [])

    def test_the_street_is_in_no_ring(self):
        town = Town([("a", 2, 0)], [("r0", "a", "street", True), ("r1", "street", "a", True)])
        self.assertEqual(list(bad_rings(town)), [])

    def test_end_numbers_count_not_bikes(self):
        town = Town([("a", 2, 1), ("b", 2, 0)],
                    [("r0", "a", "b", True), ("r1", "b", "a", True), ("r2", "a", "street", True)])
        self.assertEqual(list(bad_rings(town)), [("empty", ["r0", "r1"])])

    def test_against_other_code(self):
        longest = 0
        for town in fair_towns(500, 21):
            found = list(bad_rings(town))
            self.assertEqual(found, all_rings(town))
            in_rings = {name for _, names in found for name in names}
            self.assertEqual(in_rings, {name for left in left_lists(town) for name in left})
            longest = max([longest] + [len(names) for _, names in found])
        self.assertGreaterEqual(longest, 3)


class ErrorsTest(unittest.TestCase):
    def test_nine_passes(self):
        rides = [(f"r{at}", "ab" if at % 2 else "ba", True) for at in range(8)]
        self.assertEqual(len(list(bad_rings(ring_town(2, rides)))), 16)
        town = ring_town(2, rides).with_ride("x", "a", "street").with_ride("y", "street", "a")
        self.assertEqual(error_of(list, bad_rings(town)), ("TooLarge", 10))
        town = ring_town(2, rides).with_bikes("a", 1).with_ride("x", "a", "street")
        self.assertEqual(error_of(list, bad_rings(town)), ("TooLarge", 9))

    def test_unkept_rides_count_twice(self):
        rides = [(f"r{at}", "ab" if at % 2 else "ba", False) for at in range(4)]
        self.assertEqual(len(list(bad_rings(ring_town(2, rides)))), 4)
        rides = rides + [("x", "bc", True), ("y", "ca", True), ("z", "ab", True)]
        self.assertEqual(error_of(list, bad_rings(ring_town(3, rides))), ("TooLarge", 11))

    def test_unfair_comes_before_too_large(self):
        rides = [(f"r{at}", "ab", True) for at in range(9)]
        self.assertEqual(error_of(list, bad_rings(ring_town(2, rides))), ("NotFair", "a", -9))

    def test_errors_come_when_it_is_iterated(self):
        told = bad_rings(ring_town(2, [(f"r{at}", "ab", True) for at in range(9)]))
        self.assertEqual(error_of(next, told), ("NotFair", "a", -9))

    def test_a_generator(self):
        told = bad_rings(both_kinds())
        self.assertIs(iter(told), told)
        self.assertEqual(next(told), ("empty", ["r2", "r5"]))

    def test_changing_what_was_yielded(self):
        town = both_kinds()
        expected = [("empty", ["r2", "r5"]), ("empty", ["r3", "r4"]), ("full", ["r0", "r1"])]
        seen = []
        for kind, names in bad_rings(town):
            seen.append((kind, list(names)))
            names.clear()
        self.assertEqual(seen, expected)
        self.assertEqual(list(bad_rings(town)), expected)
        self.assertEqual(rows(town), rows(both_kinds()))


class IsRingTest(unittest.TestCase):
    def test_against_other_code(self):
        for town in fair_towns(200, 22):
            for kind, names in all_rings(town):
                for bent in ([], names, names[1:] + names[:1], names[::-1], names[1:], names + names, names + ["x"]):
                    for word in ("empty", "full", "street", ""):
                        expected = word in ("empty", "full") and is_ring(town, word, bent)
                        self.assertEqual(is_bad_ring(town, word, bent), expected)


if __name__ == "__main__":
    unittest.main()
