"""The greatest number of riders who can be left ([35], [36])."""

import itertools
import time
import unittest

from helper import (SECONDS, brim, dry, error_of, fair_towns, inside, large_town, left_lists, lists_out_of, names_of,
                    random_towns)
from ridesonce.ends import empties, first_unfair, fulls
from ridesonce.leftover import LeftFamily
from ridesonce.towns import Town
from ridesonce.worst import judge_worst, worst


def ring_rides(town):
    return inside(town, "empty") + inside(town, "full")


def stations_of_ends(town):
    return [station[0] for station in town.stations if station[0] in empties(town) + fulls(town)]


def sum_of(town, heights):
    return sum(max(0, 1 + heights[start] - heights[goal]) for _, start, goal, _ in ring_rides(town))


def is_level(town, names):
    rides = [town.ride(name) for name in names]
    return all(sum(ride[1] == station[0] for ride in rides) == sum(ride[2] == station[0] for ride in rides)
               for station in town.stations)


def accepts(town, answer):
    """What the document says of judge_worst, word by word."""
    number, names, heights = answer
    good = [ride[0] for ride in ring_rides(town)]
    if any(name not in good for name in names) or len(set(names)) != len(names) or len(names) != number:
        return False
    if not is_level(town, names) or sorted(heights) != sorted(stations_of_ends(town)):
        return False
    return sum_of(town, heights) == number


def ladder():
    """Empty stations with rings that share r1, two rides with the same ends, a full ring, and rides of other ends."""
    stations = [("a", 9, 1), ("b", 9, 0), ("c", 9, 2), ("f", 1, 1), ("g", 1, 1), ("m", 9, 5)]
    rides = [("r0", "a", "b", True), ("r1", "b", "c", False), ("r2", "c", "a", True), ("r3", "c", "b", True),
             ("r4", "c", "m", True), ("r5", "f", "g", True), ("r6", "g", "f", True), ("r7", "a", "b", False),
             ("r8", "b", "street", True), ("r9", "b", "m", True), ("r10", "f", "g", False), ("r11", "g", "f", False)]
    return Town(stations, rides)


class WorstTest(unittest.TestCase):
    def check(self, town):
        number, names, heights = answer = worst(town)
        self.assertEqual(number, len(names))
        self.assertEqual(names, [name for name in names_of(town) if name in names])
        self.assertEqual(list(heights), stations_of_ends(town))
        self.assertEqual(sum_of(town, heights), number)
        self.assertTrue(is_level(town, names))
        self.assertIs(judge_worst(town, answer), True)
        self.assertTrue(accepts(town, answer))
        return answer

    def test_examples(self):
        self.assertEqual(worst(dry())[:2], (2, ["r1", "r2"]))
        self.assertEqual(self.check(brim())[:2], (2, ["r1", "r2"]))
        self.assertEqual(worst(Town.empty()), (0, [], {}))
        self.assertEqual(self.check(dry().without(["r4"]))[:2], (0, []))

    def test_both_kinds(self):
        number, names, _ = self.check(ladder())
        self.assertEqual(number, 5)
        self.assertTrue({"r1", "r2", "r5", "r6"} <= set(names))
        self.assertEqual(len({"r0", "r7"} & set(names)), 1)

    def test_heights_of_stations_that_are_in_no_ring(self):
        town = Town([("b", 2, 0), ("m", 2, 1), ("f", 1, 1), ("a", 2, 1)], [("r", "a", "b", True), ("s", "b", "street", True)])
        number, names, heights = self.check(town)
        self.assertEqual((number, names, list(heights)), (0, [], ["b", "f", "a"]))
        self.assertLess(heights["a"], heights["b"])

    def test_dead_lots_are_left(self):
        dead = Town([("a", 2, 0), ("b", 2, 0)], [("r0", "a", "b", True), ("r1", "b", "a", False)])
        self.assertEqual(self.check(dead)[:2], (2, ["r0", "r1"]))

    def test_against_all_orders(self):
        greatest = {}
        for town in fair_towns(700, 121):
            number, names, _ = self.check(town)
            left = left_lists(town)
            self.assertEqual(number, max(len(row) for row in left))
            self.assertIn(tuple(names), left)
            self.assertEqual(number, len(list(LeftFamily(town))[-1]))
            greatest[number] = True
        self.assertGreaterEqual(len(greatest), 5)

    def test_no_heights_give_less(self):
        for town in fair_towns(60, 122, most_stations=3):
            number = worst(town)[0]
            stations = stations_of_ends(town)
            for row in itertools.product(range(4), repeat=len(stations)):
                self.assertGreaterEqual(sum_of(town, dict(zip(stations, row))), number)

    def test_12_stations_and_24_rides(self):
        start = time.perf_counter()
        self.assertEqual(self.check(large_town())[0], 12)
        for bikes in (0, 999999):
            stations = [(f"s{at}", 999999, bikes) for at in range(12)]
            rides = [(f"r{at}", f"s{at % 12}", f"s{(at + 1 + at // 12 * 3) % 12}", True) for at in range(24)]
            self.assertEqual(self.check(Town(stations, rides))[0], 24)
        for town in fair_towns(150, 123, most_stations=12, most_rides=24, most_passes=48):
            self.check(town)
        self.assertLess(time.perf_counter() - start, SECONDS)

    def test_unfair(self):
        self.assertEqual(error_of(worst, dry().without(["r3"])), ("NotFair", "a", -1))
        for town in random_towns(50, 124):
            if first_unfair(town) is not None:
                self.assertEqual(error_of(worst, town), ("NotFair", *first_unfair(town)))
                self.assertEqual(error_of(judge_worst, town, (0, [], {})), ("NotFair", *first_unfair(town)))

    def test_a_large_town_needs_no_small_one(self):
        rides = [(f"r{at}", "ab"[at % 2], "ba"[at % 2], True) for at in range(9)] + [("x", "b", "a", True)]
        self.assertEqual(self.check(Town([("a", 99, 0), ("b", 99, 0)], rides))[0], 10)


class JudgeTest(unittest.TestCase):
    def judge(self, number, names, heights):
        told = judge_worst(ladder(), (number, names, heights))
        self.assertIs(type(told), bool)
        self.assertEqual(told, accepts(ladder(), (number, names, heights)))
        return told

    def setUp(self):
        self.number, self.names, self.heights = worst(ladder())

    def test_right_answers(self):
        self.assertTrue(self.judge(self.number, self.names, self.heights))
        self.assertTrue(self.judge(self.number, self.names[::-1], self.heights))
        other = [{"r0": "r7", "r7": "r0"}.get(name, name) for name in self.names]
        self.assertTrue(self.judge(self.number, other, self.heights))
        backwards = dict(reversed(list(self.heights.items())))
        self.assertTrue(self.judge(self.number, self.names, backwards))
        raised = {name: height - 1000 for name, height in self.heights.items()}
        self.assertTrue(self.judge(self.number, self.names, raised))
        self.assertIs(judge_worst(Town.empty(), (0, [], {})), True)

    def test_bent_numbers(self):
        for number in (0, -1, self.number - 1, self.number + 1, 10 ** 9):
            self.assertFalse(self.judge(number, self.names, self.heights))

    def test_bent_names(self):
        for names in ([], self.names[1:], self.names[:-1], self.names + ["r0"], self.names + self.names[:1],
                      self.names[1:] + ["x"], self.names[1:] + self.names[1:2], self.names[1:] + ["r4"],
                      self.names[1:] + ["a"], ["x"] * self.number, [self.names[0]] * self.number,
                      self.names[1:] + ["street"], self.names[1:] + [""]):
            self.assertFalse(self.judge(self.number, names, self.heights), names)

    def test_rides_of_other_ends_and_unkept_ones_between_full_stations(self):
        self.assertTrue(is_level(ladder(), ["r10", "r11"]))
        names = [name for name in self.names if name not in ("r5", "r6")] + ["r10", "r11"]
        self.assertFalse(self.judge(self.number, names, self.heights))
        self.assertFalse(self.judge(self.number + 2, self.names + ["r10", "r11"], self.heights))

    def test_names_that_do_not_balance(self):
        for name in self.names:
            for other in ("r0", "r3", "r7"):
                names = [one for one in self.names if one != name] + [other]
                if len(set(names)) == self.number and not is_level(ladder(), names):
                    self.assertFalse(self.judge(self.number, names, self.heights))

    def test_bent_heights(self):
        for name in self.heights:
            less = {key: height for key, height in self.heights.items() if key != name}
            self.assertFalse(self.judge(self.number, self.names, less))
            self.assertFalse(self.judge(self.number, self.names, {**less, "x": 0}))
            self.assertFalse(self.judge(self.number, self.names, {**less, "m": 0}))
            for change in (-7, 7):
                bent = {**self.heights, name: self.heights[name] + change}
                if sum_of(ladder(), bent) != self.number:
                    self.assertFalse(self.judge(self.number, self.names, bent))
        self.assertFalse(self.judge(self.number, self.names, {**self.heights, "m": 0}))
        self.assertFalse(self.judge(self.number, self.names, {**self.heights, "street": 0}))
        self.assertFalse(self.judge(self.number, self.names, {}))

    def test_any_heights_with_the_same_sum(self):
        town = dry()
        for first, second in itertools.product(range(-3, 4), repeat=2):
            expected = max(0, 1 + first - second) + max(0, 1 + second - first) == 2
            self.assertIs(judge_worst(town, (2, ["r1", "r2"], {"a": first, "b": second})), expected)

    def test_less_than_the_worst(self):
        self.assertIs(judge_worst(dry(), (0, [], {"a": 0, "b": 0})), False)
        for first, second in itertools.product(range(-3, 4), repeat=2):
            self.assertIs(judge_worst(dry(), (0, [], {"a": first, "b": second})), False)

    def test_every_answer_of_small_towns(self):
        good = 0
        for town in fair_towns(60, 125, most_stations=3, most_passes=5):
            stations = stations_of_ends(town)
            for names in lists_out_of(names_of(town)):
                for row in itertools.product(range(2), repeat=len(stations)):
                    answer = (len(names), names, dict(zip(stations, row)))
                    self.assertIs(judge_worst(town, answer), accepts(town, answer))
                    good += accepts(town, answer)
                    if accepts(town, answer):
                        self.assertEqual(len(names), worst(town)[0])
        self.assertGreater(good, 50)

    def test_arguments_stay(self):
        answer = (self.number, list(self.names), dict(self.heights))
        judge_worst(ladder(), answer)
        self.assertEqual(answer, (self.number, self.names, self.heights))


if __name__ == "__main__":
    unittest.main()
