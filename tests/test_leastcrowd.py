"""The smallest crowd that can be left ([42])."""

import itertools
import time
import unittest

from helper import (SECONDS, brim, crowd_is_fair, dry, error_of, large_town, left_lists, names_of, random_towns,
                    ring_of_crowd, shows_a_ring)
from ridesonce.crowds import crowd_town
from ridesonce.leastcrowd import least_crowd
from ridesonce.sorts import always
from ridesonce.towns import Town

RIDES = [("r1", "a", "b", True), ("r2", "b", "a", True)]


def crowds_of(names, total):
    """All crowds with so many riders."""
    for row in itertools.combinations_with_replacement(range(len(names)), total):
        yield {name: row.count(at) for at, name in enumerate(names)}


class LeastCrowdTest(unittest.TestCase):
    def check(self, town):
        told = least_crowd(town)
        self.assertEqual(told is None, always(town)[0] == "yes")
        if told is not None:
            total, kind, ring, crowd = told
            self.assertEqual(sum(crowd.values()), total)
            self.assertTrue(shows_a_ring(town, kind, ring, crowd), told)
        return told

    def test_none(self):
        self.assertIsNone(least_crowd(Town.empty()))
        self.assertIsNone(least_crowd(Town([("a", 2, 1)], [])))
        self.assertIsNone(self.check(Town([("a", 2, 1), ("b", 2, 1)], RIDES)))

    def test_a_ring_that_is_there_already(self):
        self.assertEqual(self.check(dry()), (2, "empty", ["r1", "r2"], {"r1": 1, "r2": 1, "r3": 0, "r4": 0}))
        self.assertEqual(self.check(brim())[:2], (2, "full"))

    def test_bikes_have_to_leave(self):
        town = Town([("a", 2, 2), ("b", 2, 1), ("c", 9, 3)], [*RIDES, ("r3", "b", "c", True)])
        self.assertEqual(self.check(town)[:2], (2 + 2 * 2 + 1, "empty"))
        self.assertEqual(least_crowd(town)[3], {"r1": 3, "r2": 1, "r3": 3})

    def test_bikes_have_to_come(self):
        town = Town([("c", 9, 3), ("a", 2, 0), ("b", 2, 1)], [("r3", "c", "a", False), *RIDES])
        self.assertEqual(self.check(town)[:2], (2 + 3 + 1, "full"))
        self.assertEqual(least_crowd(town)[3], {"r3": 3, "r1": 2, "r2": 1})

    def test_the_street(self):
        town = Town([("a", 2, 2), ("b", 2, 1)], [*RIDES, ("out", "b", "street", True)])
        self.assertEqual(self.check(town)[:2], (2 + 2 + 3, "empty"))
        town = Town([("a", 2, 0), ("b", 2, 1)], [*RIDES, ("in", "street", "b", True)])
        self.assertEqual(self.check(town)[:2], (2 + 3 + 2, "full"))

    def test_the_smaller_kind(self):
        both = [*RIDES, ("in", "street", "a", True), ("out", "a", "street", True)]
        town = Town([("a", 5, 2), ("b", 5, 2)], both)
        self.assertEqual(self.check(town)[:2], (2 + 4 + 2, "empty"))
        town = Town([("a", 5, 3), ("b", 5, 3)], both)
        self.assertEqual(self.check(town)[:2], (2 + 4 + 2, "full"))

    def test_unkept_sorts_are_in_no_full_ring(self):
        town = Town([("a", 5, 4), ("b", 5, 4)], [("r1", "a", "b", True), ("r2", "b", "a", False),
                                                 ("in", "street", "a", True), ("out", "a", "street", True)])
        self.assertEqual(self.check(town)[:2], (2 + 4 + 8, "empty"))

    def test_a_longer_ring_may_need_fewer_riders(self):
        rides = [*RIDES, ("q1", "c", "d", True), ("q2", "d", "e", True), ("q3", "e", "c", True),
                 ("out", "b", "street", True)]
        town = Town([("a", 9, 4), ("b", 9, 0), ("c", 9, 0), ("d", 9, 0), ("e", 9, 0)], rides)
        self.assertEqual(self.check(town)[:3], (3, "empty", ["q1", "q2", "q3"]))

    def test_bikes_go_by_the_shortest_ways(self):
        # The bikes of a may stay in c, one ride away, as long as there is room; the others go on to d.
        rides = [*RIDES, ("r3", "a", "c", True), ("r4", "c", "d", True), ("r5", "a", "d", True)]
        town = Town([("a", 5, 5), ("b", 5, 0), ("c", 3, 0), ("d", 2, 0)], rides)
        self.assertEqual(self.check(town)[:2], (2 + 5, "empty"))
        town = Town([("a", 5, 5), ("b", 5, 0), ("c", 3, 0), ("d", 2, 0)], rides[:4])
        self.assertEqual(self.check(town)[:2], (2 + 3 + 2 * 2, "empty"))

    def test_the_town_need_not_be_fair(self):
        self.assertEqual(self.check(dry().without(["r3"]))[0], 2)

    def test_against_a_search_through_crowds(self):
        totals = {}
        for town in random_towns(400, 161, most_stations=3, most_rides=5):
            told = self.check(town)
            limit = 7 if told is None else min(7, told[0])
            for total in range(limit):
                for crowd in crowds_of(names_of(town), total):
                    self.assertFalse(crowd_is_fair(town, crowd) and ring_of_crowd(town, crowd), (crowd, told))
            if told is not None:
                totals[told[0]] = True
        self.assertGreaterEqual(len(totals), 6)

    def test_the_crowd_can_leave_riders(self):
        tried = 0
        for town in random_towns(200, 162):
            told = self.check(town)
            if told is not None and crowd_town(town, told[3]).passes() <= 7:
                self.assertNotEqual(left_lists(crowd_town(town, told[3])), [()])
                tried += 1
        self.assertGreater(tried, 20)

    def test_many_docks(self):
        start = time.perf_counter()
        rides = [*RIDES, ("r3", "b", "c", True), ("r4", "c", "a", True), ("r5", "c", "d", True), ("r6", "d", "a", True),
                 ("r7", "a", "d", True), ("r8", "d", "e", True)]
        town = Town([("a", 999999, 999999), ("b", 999999, 777777), ("c", 999999, 0), ("d", 999999, 5),
                     ("e", 999999, 999990)], rides)
        total, kind, ring, crowd = self.check(town)
        self.assertTrue(total > 3 and max(crowd.values()) > 700000)
        self.assertLess(time.perf_counter() - start, SECONDS)

    def test_8_passes_in_rings(self):
        start = time.perf_counter()
        rides = [(f"r{at}", "ab"[at % 2], "ba"[at % 2], True) for at in range(8)]
        self.assertEqual(self.check(Town([("a", 9, 0), ("b", 9, 0)], rides))[0], 2)
        self.assertIsNone(self.check(Town([("a", 9, 1), ("b", 9, 0)], rides)))
        self.assertLess(time.perf_counter() - start, SECONDS)

    def test_too_large(self):
        rides = [(f"r{at}", "ab"[at % 2], "ba"[at % 2], True) for at in range(9)]
        for bikes in (0, 1):
            self.assertEqual(error_of(least_crowd, Town([("a", 9, bikes), ("b", 9, 0)], rides)), ("TooLarge", 9))
        unkept = [(f"r{at}", "a", "b", False) for at in range(5)]
        self.assertEqual(error_of(least_crowd, Town([("a", 9, 0), ("b", 9, 0)], unkept)), ("TooLarge", 10))
        self.assertEqual(error_of(least_crowd, large_town()), ("TooLarge", large_town().passes()))


if __name__ == "__main__":
    unittest.main()
