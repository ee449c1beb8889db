"""Any number of riders of each sort ([38])."""

import random
import time
import unittest

from helper import (SECONDS, all_rings, brim, crowd_is_fair, crowd_numbers, dry, error_of, large_town, names_of,
                    random_towns, rings_of_sorts, rows, shows_a_ring)
from ridesonce.crowds import crowd_ends, crowd_town, crowd_with_ring
from ridesonce.ends import ends
from ridesonce.towns import Town

MANY = 10 ** 9


def table():
    """Sorts of all forms: kept and unkept, from and to the street, two with the same ends."""
    stations = [("b", 9, 4), ("a", 9, 2), ("c1", 9, 0), ("d", 3, 3)]
    rides = [("k", "a", "b", True), ("u", "b", "a", False), ("in", "street", "a", True), ("out", "b", "street", True),
             ("c2", "a", "b", True), ("v", "c1", "b", True)]
    return Town(stations, rides)


def crowd_of(town, *numbers):
    return dict(zip(names_of(town), numbers))


class CrowdEndsTest(unittest.TestCase):
    def test_ordinary(self):
        crowd = crowd_of(table(), 1, 2, 3, 4, 5, 6)
        self.assertEqual(crowd_ends(table(), crowd), {"b": 4 + 1 - 2 - 4 + 5 + 6, "a": 2 - 1 + 2 + 3 - 5, "c1": -6, "d": 3})
        self.assertEqual(list(crowd_ends(table(), crowd)), ["b", "a", "c1", "d"])

    def test_nobody(self):
        self.assertEqual(crowd_ends(table(), crowd_of(table(), 0, 0, 0, 0, 0, 0)), {"b": 4, "a": 2, "c1": 0, "d": 3})
        self.assertEqual(crowd_ends(Town.empty(), {}), {})
        self.assertEqual(crowd_ends(Town([("a", 2, 1)], []), {}), {"a": 1})

    def test_one_of_each_is_the_town_itself(self):
        for town in random_towns(100, 141) + [large_town()]:
            self.assertEqual(crowd_ends(town, {name: 1 for name in names_of(town)}), ends(town))

    def test_many(self):
        crowd = crowd_of(table(), MANY, 0, MANY, 0, MANY, MANY)
        self.assertEqual(crowd_ends(table(), crowd), {"b": 4 + 3 * MANY, "a": 2 - MANY, "c1": -MANY, "d": 3})
        crowd = crowd_of(table(), MANY, MANY, 0, 0, 0, 0)
        self.assertEqual(crowd_ends(table(), crowd), {"b": 4, "a": 2, "c1": 0, "d": 3})

    def test_keys_in_any_order(self):
        chance = random.Random(142)
        for town in random_towns(100, 143):
            crowd = {name: chance.choice([0, 1, 2, 7, MANY]) for name in names_of(town)}
            keys = list(crowd)
            chance.shuffle(keys)
            other = {name: crowd[name] for name in keys}
            self.assertEqual(crowd_ends(town, other), crowd_numbers(town, crowd))
            self.assertEqual(list(crowd_ends(town, other)), [station[0] for station in town.stations])
            self.assertEqual(list(other), keys)


class CrowdTownTest(unittest.TestCase):
    def test_ordinary(self):
        town = crowd_town(table(), crowd_of(table(), 2, 1, 1, 0, 0, 2))
        expected = (("c1", "a", "b", True), ("c2", "a", "b", True), ("c3", "b", "a", False),
                    ("c4", "street", "a", True), ("c5", "c1", "b", True), ("c6", "c1", "b", True))
        self.assertEqual(rows(town), (table().stations, expected))

    def test_first_sort_first_whatever_the_keys(self):
        crowd = dict(reversed(list(crowd_of(table(), 2, 1, 1, 0, 0, 2).items())))
        self.assertEqual(rows(crowd_town(table(), crowd)), rows(crowd_town(table(), crowd_of(table(), 2, 1, 1, 0, 0, 2))))

    def test_nobody(self):
        town = crowd_town(table(), crowd_of(table(), 0, 0, 0, 0, 0, 0))
        self.assertEqual(rows(town), (table().stations, ()))
        self.assertEqual(rows(crowd_town(Town.empty(), {})), ((), ()))

    def test_24_riders_and_25(self):
        for numbers in ((24, 0, 0, 0, 0, 0), (4, 4, 4, 4, 4, 4), (0, 0, 0, 0, 0, 24)):
            town = crowd_town(table(), crowd_of(table(), *numbers))
            self.assertEqual(names_of(town), [f"c{at}" for at in range(1, 25)])
        for numbers in ((25, 0, 0, 0, 0, 0), (4, 4, 4, 4, 4, 5), (0, 0, 1, 0, 0, 24)):
            self.assertEqual(error_of(crowd_town, table(), crowd_of(table(), *numbers)), ("TooLarge", 25))

    def test_many_riders_are_not_made_first(self):
        start = time.perf_counter()
        self.assertEqual(error_of(crowd_town, table(), crowd_of(table(), *[MANY] * 6)), ("TooLarge", 6 * MANY))
        self.assertEqual(error_of(crowd_town, table(), crowd_of(table(), 0, 0, 0, 0, 0, MANY)), ("TooLarge", MANY))
        everybody = {name: MANY for name in names_of(large_town())}
        self.assertEqual(error_of(crowd_town, large_town(), everybody), ("TooLarge", 24 * MANY))
        self.assertLess(time.perf_counter() - start, SECONDS)

    def test_24_sorts(self):
        town = crowd_town(large_town(), {name: 1 for name in names_of(large_town())})
        self.assertEqual([ride[1:] for ride in town.rides], [ride[1:] for ride in large_town().rides])

    def test_ends_are_those_of_the_crowd(self):
        chance = random.Random(144)
        for town in random_towns(150, 145):
            crowd = {name: chance.randint(0, 3) for name in names_of(town)}
            if sum(crowd.values()) <= 24:
                self.assertEqual(ends(crowd_town(town, crowd)), crowd_ends(town, crowd))


class CrowdWithRingTest(unittest.TestCase):
    def test_brings_the_ring_to_its_ends(self):
        found, missing = 0, 0
        for town in random_towns(300, 146):
            for kind in ("empty", "full"):
                for ring in rings_of_sorts(town.rides, kind == "full"):
                    crowd = crowd_with_ring(town, kind, ring)
                    found += crowd is not None
                    missing += crowd is None
                    if crowd is not None:
                        self.assertEqual(list(crowd), names_of(town))
                        self.assertTrue(shows_a_ring(town, kind, ring, crowd))
        self.assertGreater(found, 100)
        self.assertGreater(missing, 30)

    def test_rings_that_are_there_already(self):
        for town in (dry(), brim()):
            for kind, ring in all_rings(town):
                crowd = crowd_with_ring(town, kind, ring)
                self.assertLessEqual(sum(crowd.values()), len(town.rides))
                self.assertTrue(crowd_is_fair(town, crowd))


if __name__ == "__main__":
    unittest.main()
