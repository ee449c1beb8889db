"""Tables of sorts: whether every fair crowd rides in every order ([39] to [41])."""

import itertools
import time
import unittest

from helper import (SECONDS, brim, crowd_is_fair, dry, error_of, large_town, left_lists, lists_out_of, names_of,
                    random_towns, ring_of_crowd, rings_of_sorts, shows_a_ring)
from ridesonce.crowds import crowd_town
from ridesonce.every import every
from ridesonce.sorts import always, bike_range, free_pairs, tight_rows
from ridesonce.towns import Town

RIDES = [("r1", "a", "b", True), ("r2", "b", "a", True)]


def pair(bikes=(1, 1), docks=(2, 2), rides=RIDES):
    return Town([("a", docks[0], bikes[0]), ("b", docks[1], bikes[1])], rides)


def closure(names, rides):
    """All pairs of places of which the second can be reached from the first."""
    found = {(name, name) for name in names} | {(ride[1], ride[2]) for ride in rides}
    while True:
        more = found | {(one, four) for one, two in found for three, four in found if two == three}
        if more == found:
            return found
        found = more


def rows_told(stations, rides):
    """tight_rows, told word by word, of a table that may have more than 24 sorts."""
    names = [station[0] for station in stations]
    docks = {name: number for name, number, _ in stations}
    anywhere = closure(names + ["street"], rides)
    rows = []
    for kind in ("empty", "full"):
        inner = [ride for ride in rides if "street" not in ride[1:3] and (ride[3] or kind == "empty")]
        near = closure(names, inner)
        knots = [[two for two in names if (one, two) in near and (two, one) in near] for one in names]
        distinct = list({(0 if kind == "empty" else 1, ride[1], ride[2]): ride for ride in inner}.values())
        starts = {ride[0]: ride[1] for ride in rides}
        for knot in [knot for at, knot in enumerate(knots) if len(knot) > 1 and knot not in knots[:at]]:
            rings = [[starts[name] for name in ring] for ring in rings_of_sorts(distinct, kind == "full")]
            least = min(sum(docks[name] for name in ring) for ring in rings if ring[0] in knot)
            if kind == "empty":
                beside = [name for name in names + ["street"] if (knot[0], name) in anywhere]
            else:
                beside = [name for name in names + ["street"] if (name, knot[0]) in anywhere]
            numbers = [docks[name] - bikes if kind == "empty" else bikes for name, _, bikes in stations if name in beside]
            rows.append((kind, knot, least, None if "street" in beside else sum(numbers)))
    return rows


def holds(rows):
    return all(rival is not None and docks > rival for _, _, docks, rival in rows)


def crowds(town, most):
    for numbers in itertools.product(range(most + 1), repeat=len(town.rides)):
        yield dict(zip(names_of(town), numbers))


def two_knots():
    """Two knots of each kind, and one of kind "empty" that is none of kind "full"."""
    stations = [(name, 3, 2) for name in ("e", "d", "c", "b", "a", "f", "g")]
    rides = [("r0", "a", "b", True), ("r1", "b", "a", True), ("r2", "c", "d", False), ("r3", "d", "c", True),
             ("r4", "e", "f", True), ("r5", "f", "e", True), ("r6", "b", "c", True), ("r7", "f", "g", True)]
    return Town(stations, rides)


class TightRowsTest(unittest.TestCase):
    def test_examples(self):
        self.assertEqual(tight_rows(dry()), [("empty", ["a", "b", "c"], 4, 5), ("full", ["a", "b", "c"], 4, 1)])
        self.assertEqual(tight_rows(pair()), [("empty", ["a", "b"], 4, 2), ("full", ["a", "b"], 4, 2)])

    def test_no_knots(self):
        self.assertEqual(tight_rows(Town.empty()), [])
        self.assertEqual(tight_rows(Town([("a", 2, 1), ("b", 2, 1)], [])), [])
        self.assertEqual(tight_rows(pair(rides=RIDES[:1])), [])
        street = [("in", "street", "a", True), ("out", "a", "street", True), *RIDES[:1]]
        self.assertEqual(tight_rows(pair(rides=street)), [])

    def test_the_street_joins_no_knot(self):
        rides = [("r", "a", "b", True), ("out", "b", "street", True), ("in", "street", "a", True)]
        self.assertEqual(tight_rows(pair(rides=rides)), [])

    def test_several_knots(self):
        expected = [("empty", ["e", "f"], 6, 3), ("empty", ["d", "c"], 6, 2), ("empty", ["b", "a"], 6, 4),
                    ("full", ["e", "f"], 6, 4), ("full", ["b", "a"], 6, 4)]
        self.assertEqual(tight_rows(two_knots()), expected)

    def test_unkept_sorts(self):
        rides = [("r1", "a", "b", True), ("r2", "b", "a", False)]
        self.assertEqual(tight_rows(pair(rides=rides)), [("empty", ["a", "b"], 4, 2)])
        # The knot is of kept sorts; the unkept one brings bikes to it all the same.
        town = Town([("a", 2, 1), ("b", 2, 1), ("c", 9, 5)], [*RIDES, ("u", "c", "a", False)])
        self.assertEqual(tight_rows(town)[1], ("full", ["a", "b"], 4, 7))

    def test_the_street_beyond(self):
        stations = [("a", 2, 1), ("b", 2, 1), ("c", 9, 5)]
        town = Town(stations, [*RIDES, ("r", "b", "c", True), ("out", "c", "street", True)])
        self.assertEqual(tight_rows(town), [("empty", ["a", "b"], 4, None), ("full", ["a", "b"], 4, 2)])
        town = Town(stations, [*RIDES, ("r", "c", "b", False), ("in", "street", "c", True)])
        self.assertEqual(tight_rows(town), [("empty", ["a", "b"], 4, 2), ("full", ["a", "b"], 4, None)])
        town = Town(stations, [*RIDES, ("r", "c", "b", False), ("out", "c", "street", True)])
        self.assertEqual(tight_rows(town), [("empty", ["a", "b"], 4, 2), ("full", ["a", "b"], 4, 7)])

    def test_the_least_docks(self):
        stations = [("a", 5, 1), ("b", 1, 1), ("c", 1, 0), ("d", 9, 2)]
        rides = [("r0", "a", "b", True), ("r1", "b", "c", True), ("r2", "c", "a", True), ("r3", "a", "d", True),
                 ("r4", "d", "a", True)]
        self.assertEqual(tight_rows(Town(stations, rides))[0][2], 7)
        self.assertEqual(tight_rows(Town(stations, [*rides[:2], ("r2", "c", "a", False), *rides[3:]])),
                         [("empty", ["a", "b", "c", "d"], 7, 12), ("full", ["a", "d"], 14, 4)])

    def test_two_sorts_with_the_same_ends(self):
        rides = [("r0", "a", "b", False), ("r1", "a", "b", True), ("r2", "b", "a", True), ("r3", "b", "a", False)]
        self.assertEqual(tight_rows(pair(rides=rides)), tight_rows(pair()))

    def test_against_other_code(self):
        many = 0
        for town in random_towns(500, 151, most_stations=8, most_rides=14, most_passes=28) + [large_town()]:
            rows = tight_rows(town)
            self.assertEqual(rows, rows_told(town.stations, town.rides))
            many = max(many, len(rows))
        self.assertGreaterEqual(many, 3)

    def test_many_docks(self):
        rows = tight_rows(pair((999999, 0), (999999, 999999)))
        self.assertEqual(rows, [("empty", ["a", "b"], 1999998, 999999), ("full", ["a", "b"], 1999998, 999999)])


class AlwaysTest(unittest.TestCase):
    def check(self, town):
        told = always(town)
        self.assertEqual(told[0] == "yes", holds(tight_rows(town)))
        if told[0] == "yes":
            self.assertEqual(told, ("yes", tight_rows(town)))
        else:
            self.assertTrue(shows_a_ring(town, *told[1:]), told)
        return told

    def test_examples(self):
        self.assertEqual(always(pair()), ("yes", [("empty", ["a", "b"], 4, 2), ("full", ["a", "b"], 4, 2)]))
        self.assertEqual(self.check(dry())[0], "no")
        self.assertEqual(always(Town.empty()), ("yes", []))
        self.assertEqual(always(Town([("a", 2, 0)], [])), ("yes", []))

    def test_exactly_greater(self):
        self.assertEqual([self.check(pair((bikes, 0), (4, 2)))[0] for bikes in range(5)], ["no"] + ["yes"] * 4)
        full = [self.check(pair((4, bikes), (4, 2)))[0] for bikes in range(3)]
        self.assertEqual(full, ["yes", "yes", "no"])

    def test_kinds(self):
        self.assertEqual(self.check(pair((0, 0)))[1], "empty")
        self.assertEqual(self.check(pair((2, 2)))[1], "full")
        self.assertEqual(self.check(pair((2, 2), rides=[RIDES[0], ("r2", "b", "a", False)]))[0], "yes")
        self.assertEqual(self.check(brim())[1], "full")

    def test_the_street_takes_and_gives(self):
        out = self.check(pair(rides=[*RIDES, ("out", "b", "street", True)]))
        self.assertEqual(out[:2], ("no", "empty"))
        inside = self.check(pair(rides=[*RIDES, ("in", "street", "b", True)]))
        self.assertEqual(inside[:2], ("no", "full"))

    def test_the_town_need_not_be_fair(self):
        town = pair((0, 1), rides=[*RIDES, ("r3", "a", "b", True), ("r4", "a", "b", False), ("r5", "a", "b", True)])
        self.assertEqual(self.check(town)[0], "yes")

    def test_bikes_have_to_go_far(self):
        stations = [(f"s{at}", 3, 3) for at in range(5)] + [("end", 9, 3)]
        rides = [("r0", "s0", "s1", True), ("r1", "s1", "s0", True)]
        rides += [(f"q{at}", f"s{at}", f"s{at + 1}", True) for at in range(1, 4)] + [("q4", "s4", "end", False)]
        told = self.check(Town(stations, rides))
        self.assertEqual(told[:2], ("no", "empty"))
        self.assertEqual(told[3]["q4"], 6)

    def test_against_a_search_through_small_crowds(self):
        words = {}
        for town in random_towns(500, 152, most_stations=3, most_rides=4):
            told = self.check(town)
            words[told[0] if told[0] == "yes" else told[1]] = True
            if told[0] == "yes":
                for crowd in crowds(town, 3):
                    self.assertFalse(crowd_is_fair(town, crowd) and ring_of_crowd(town, crowd))
        self.assertEqual(len(words), 3)

    def test_everybody_rides_whatever_the_crowd(self):
        tried = 0
        for town in random_towns(250, 153, most_stations=3, most_rides=4):
            rings = rings_of_sorts(town.rides, False)
            if always(town)[0] == "yes" and rings:
                for crowd in crowds(town, 2):
                    if sum(crowd.values()) <= 5 and crowd_is_fair(town, crowd):
                        self.assertEqual(left_lists(crowd_town(town, crowd)), [()])
                        tried += 1
        self.assertGreater(tried, 200)

    def test_the_ring_of_the_crowd_can_be_left(self):
        for town in random_towns(200, 154):
            told = self.check(town)
            if told[0] == "no" and sum(told[3].values()) <= 24:
                after = every(crowd_town(town, told[3]))
                self.assertEqual(after[0], "no")

    def test_large_tables(self):
        start = time.perf_counter()
        words = {}
        for town in random_towns(150, 155, most_stations=12, most_rides=24, most_passes=48) + [large_town()]:
            words[self.check(town)[0]] = True
        for bikes in (0, 1, 499999, 999998, 999999):
            stations = [(f"s{at}", 999999, bikes) for at in range(12)]
            rides = [(f"r{at}", f"s{at % 12}", f"s{(at + 1 + at // 12) % 12}", at % 5 > 0) for at in range(24)]
            words[self.check(Town(stations, rides))[0]] = True
        self.assertEqual(len(words), 2)
        self.assertLess(time.perf_counter() - start, SECONDS)


class LastsTest(unittest.TestCase):
    def test_a_yes_lasts_when_somebody_rides(self):
        tried = 0
        for town in random_towns(400, 156):
            if always(town)[0] == "yes":
                for _, start, goal, _ in town.rides:
                    leaves = start == "street" or town.bikes(start) > 0
                    if leaves and (goal == "street" or town.free(goal) > 0):
                        after = town if start == "street" else town.with_bikes(start, town.bikes(start) - 1)
                        after = after if goal == "street" else after.with_bikes(goal, town.bikes(goal) + 1)
                        self.assertEqual(always(after)[0], "yes")
                        tried += 1
        self.assertGreater(tried, 200)

    def test_a_yes_lasts_with_fewer_sorts(self):
        for town in random_towns(120, 157):
            if always(town)[0] == "yes":
                for names in lists_out_of(names_of(town)[:6]):
                    self.assertEqual(always(town.only(names))[0], "yes")


class FreePairsTest(unittest.TestCase):
    def test_ordinary(self):
        self.assertEqual(free_pairs(pair()), [("a", "b"), ("b", "a")])
        self.assertEqual(free_pairs(dry()), [])
        self.assertEqual(free_pairs(Town.empty()), [])
        self.assertEqual(free_pairs(Town([("a", 2, 1)], [])), [("a", "street"), ("street", "a")])

    def test_order(self):
        town = Town([("b", 2, 1), ("a", 2, 1)], [])
        expected = [("b", "a"), ("b", "street"), ("a", "b"), ("a", "street"), ("street", "b"), ("street", "a")]
        self.assertEqual(free_pairs(town), expected)

    def test_a_third_station(self):
        town = Town([("a", 2, 1), ("b", 2, 1), ("c", 2, 1)], RIDES)
        self.assertEqual(free_pairs(town), [("a", "b"), ("a", "c"), ("b", "a"), ("b", "c"), ("c", "a"), ("c", "b"),
                                            ("c", "street"), ("street", "c")])
        town = Town([("a", 2, 1), ("b", 2, 1), ("c", 3, 0)], RIDES)
        self.assertEqual(free_pairs(town)[:2], [("a", "b"), ("b", "a")])
        self.assertNotIn(("a", "c"), free_pairs(town))

    def test_against_always(self):
        found = 0
        for town in random_towns(150, 158):
            places = [station[0] for station in town.stations] + ["street"]
            pairs = [(start, goal) for start in places for goal in places if start != goal]
            expected = [(start, goal) for start, goal in pairs
                        if always(town.with_ride("more", start, goal))[0] == "yes"]
            self.assertEqual(free_pairs(town), expected)
            found += len(expected)
        self.assertGreater(found, 100)

    def test_the_25th_sort(self):
        rides = [(f"r{at}", "abc"[at % 3], "bca"[at % 3], at % 2 == 0) for at in range(24)]
        town = Town([("a", 3, 2), ("b", 3, 2), ("c", 3, 2), ("d", 3, 2)], rides)
        self.assertEqual(error_of(town.with_ride, "more", "a", "b"), ("TooLarge", 25))
        places = ["a", "b", "c", "d", "street"]
        pairs = [(start, goal) for start in places for goal in places if start != goal]
        expected = [(start, goal) for start, goal in pairs
                    if holds(rows_told(town.stations, [*rides, ("more", start, goal, True)]))]
        self.assertTrue(0 < len(expected) < 20)
        self.assertEqual(free_pairs(town), expected)

    def test_12_stations_and_24_sorts(self):
        start = time.perf_counter()
        self.assertEqual(free_pairs(large_town()), [])
        stations = [(f"s{at}", 999999, 900000) for at in range(12)]
        rides = [(f"r{at}", f"s{at % 12}", f"s{(at + 1 + at // 12) % 12}", False) for at in range(24)]
        self.assertEqual(len(free_pairs(Town(stations, rides))), 12 * 11 + 12)
        self.assertLess(time.perf_counter() - start, SECONDS)


class BikeRangeTest(unittest.TestCase):
    def test_examples(self):
        self.assertEqual(bike_range(pair()), (1, 3))
        self.assertEqual(bike_range(dry()), (3, 3))

    def test_fewer_than_two_stations(self):
        self.assertIsNone(bike_range(Town.empty()))
        self.assertIsNone(bike_range(Town([("a", 2, 1)], [])))
        self.assertIsNone(bike_range(Town([("a", 2, 1), ("b", 2, 1)], [])))

    def test_the_street(self):
        self.assertIsNone(bike_range(pair(rides=[*RIDES, ("r3", "a", "street", True)])))
        self.assertIsNone(bike_range(pair(rides=[*RIDES, ("r3", "street", "a", True)])))

    def test_one_knot_of_kept_sorts(self):
        self.assertIsNone(bike_range(pair(rides=[RIDES[0], ("r2", "b", "a", False)])))
        self.assertIsNone(bike_range(Town([("a", 2, 1), ("b", 2, 1), ("c", 2, 1)], RIDES)))
        self.assertIsNone(bike_range(Town([("a", 2, 1), ("b", 2, 1), ("c", 2, 1)], [*RIDES, ("r", "c", "a", True)])))
        four = [*RIDES, ("r3", "c", "d", True), ("r4", "d", "c", True)]
        self.assertIsNone(bike_range(Town([("a", 2, 1), ("b", 2, 1), ("c", 2, 1), ("d", 2, 1)], four)))

    def test_no_number_fits(self):
        rides = [*RIDES, ("r3", "b", "c", True), ("r4", "c", "b", True)]
        town = Town([("a", 1, 1), ("b", 1, 1), ("c", 9, 1)], rides)
        self.assertEqual(bike_range(town), (10, 1))

    def test_rings_of_unkept_sorts_count_for_the_least(self):
        rides = [("r0", "a", "b", True), ("r1", "b", "c", True), ("r2", "c", "a", True), ("u", "b", "a", False)]
        town = Town([("a", 2, 1), ("b", 3, 1), ("c", 4, 1)], rides)
        self.assertEqual(bike_range(town), (1 + 9 - 5, 9 - 1))

    def test_the_number_of_bikes_alone(self):
        told = 0
        for town in random_towns(300, 159, most_stations=3):
            told += bike_range(town) is not None
            if bike_range(town) is not None:
                least, most = bike_range(town)
                for row in itertools.product(*[range(docks + 1) for _, docks, _ in town.stations]):
                    stations = [(name, docks, bikes) for (name, docks, _), bikes in zip(town.stations, row)]
                    other = Town(stations, town.rides)
                    self.assertEqual(bike_range(other), (least, most))
                    self.assertEqual(always(other)[0] == "yes", least <= sum(row) <= most)
        self.assertGreater(told, 20)


if __name__ == "__main__":
    unittest.main()
