"""End numbers, and what final orders leave ([14], [15])."""

import unittest

from helper import brim, dry, end_numbers, error_of, fair_towns, final_states, inside, is_fair, random_towns
from ridesonce.ahead import ahead
from ridesonce.bookverdicts import apart, judge_book, strike
from ridesonce.chances import chance, mean_left, order_counts
from ridesonce.cheapest import cheapest_mends, judge_mends
from ridesonce.ends import empties, ends, first_unfair, fulls
from ridesonce.every import every, judge_every
from ridesonce.leftover import LeftFamily
from ridesonce.rings import bad_rings
from ridesonce.rulebooks import RuleBook
from ridesonce.rules import Rule
from ridesonce.senders import Wise
from ridesonce.some import some, wise_rides
from ridesonce.standings import before_pairs
from ridesonce.steps import able, go
from ridesonce.sure import sure_riders, why
from ridesonce.towns import Town
from ridesonce.van import van_now, van_number
from ridesonce.worst import judge_worst, worst


class EndsTest(unittest.TestCase):
    def test_examples(self):
        self.assertEqual(ends(dry()), {"a": 0, "b": 0, "c": 1})
        self.assertEqual(ends(brim()), {"a": 1, "b": 1, "c": 0})
        self.assertEqual(ends(Town.empty()), {})

    def test_town_order(self):
        self.assertEqual(list(ends(Town([("b", 1, 0), ("a", 1, 0)], [("r", "a", "b", True)]))), ["b", "a"])

    def test_street_and_unkept_rides(self):
        town = Town([("a", 5, 1), ("b", 5, 1)], [("r", "street", "a", True), ("q", "a", "b", False),
                                                 ("p", "b", "street", True), ("o", "street", "b", True)])
        self.assertEqual(ends(town), {"a": 1, "b": 2})
        self.assertEqual(ends(go(town, "q")), {"a": 1, "b": 2})

    def test_numbers_below_0_and_above_the_docks(self):
        town = Town([("a", 1, 0), ("b", 1, 1)], [("r", "a", "b", True), ("q", "a", "b", True)])
        self.assertEqual(ends(town), {"a": -2, "b": 3})

    def test_no_step_changes_them(self):
        for town in random_towns(150):
            self.assertEqual(ends(town), end_numbers(town))
            for name in able(town):
                self.assertEqual(ends(go(town, name)), ends(town))


class UnfairTest(unittest.TestCase):
    STATIONS = [("a", 2, 1), ("b", 2, 1), ("c", 2, 0)]

    def test_fair(self):
        self.assertIsNone(first_unfair(dry()))
        self.assertIsNone(first_unfair(Town.empty()))
        self.assertIsNone(first_unfair(Town([("a", 1, 1), ("b", 1, 0)], [("r", "a", "b", True)])))

    def test_first_station_that_breaks_it(self):
        town = Town(self.STATIONS, [("r", "c", "b", True), ("q", "c", "b", True)])
        self.assertEqual(first_unfair(town), ("b", 3))
        self.assertEqual(first_unfair(town.without(["q"])), ("c", -1))
        self.assertEqual(first_unfair(Town([("a", 2, 2)], [("r", "street", "a", True)])), ("a", 3))

    def test_against_other_code(self):
        for town in random_towns(300):
            self.assertEqual(first_unfair(town) is None, is_fair(town))

    def test_empties_and_fulls(self):
        self.assertEqual((empties(dry()), fulls(dry())), (["a", "b"], []))
        self.assertEqual((empties(brim()), fulls(brim())), (["c"], ["a", "b"]))
        self.assertEqual((empties(Town.empty()), fulls(Town.empty())), ([], []))

    def test_empties_and_fulls_of_unfair_towns(self):
        stations = [("d", 1, 1), ("a", 2, 1), ("b", 2, 1), ("c", 2, 0)]
        rides = [("r", "c", "b", True), ("q", "a", "b", True), ("p", "b", "d", True), ("o", "d", "street", True)]
        town = Town(stations, rides)
        self.assertEqual(first_unfair(town), ("c", -1))
        self.assertEqual((empties(town), fulls(town)), (["a"], ["d", "b"]))

    def test_every_function_that_needs_a_fair_town(self):
        town = Town(self.STATIONS, [("r", "c", "b", True), ("q", "c", "b", True)])
        calls = [lambda: list(bad_rings(town)), lambda: every(town), lambda: judge_every(town, ("yes", {}, {})),
                 lambda: judge_every(town, ("no", "empty", [], [])), lambda: sure_riders(town),
                 lambda: why(town, "r"), lambda: why(town, "x"), lambda: some(town), lambda: wise_rides(town)]
        for call in calls:
            self.assertEqual(error_of(call), ("NotFair", "b", 3))
        book, rule = RuleBook("let *\n"), Wise(Rule())
        calls = [rule, rule.choices, rule.pick, before_pairs, LeftFamily, worst, order_counts, chance, mean_left, ahead, van_number,
                 lambda town: judge_worst(town, (0, [], {})), lambda town: cheapest_mends(town, {}),
                 lambda town: judge_mends(town, {}, ("yes", 0, [], ("price", 0), ("price", 0))), lambda town: van_now(town, {}),
                 lambda town: judge_book(town, book), lambda town: strike(town, book), lambda town: apart(town, book, book)]
        for call in calls:
            self.assertEqual(error_of(call, town), ("NotFair", "b", 3))


class FinalOrdersTest(unittest.TestCase):
    def test_what_final_orders_leave(self):
        for town in fair_towns(400, 11):
            may_be_left = [name for kind in ("empty", "full") for name in inside(town, kind)]
            for bikes, left in final_states(town):
                self.assertEqual(list(bikes), list(ends(town).values()))
                for ride in left:
                    self.assertIn(ride, may_be_left)
                for station in ends(town):
                    ending = [ride for ride in left if ride[2] == station]
                    starting = [ride for ride in left if ride[1] == station]
                    self.assertEqual(len(ending), len(starting))


if __name__ == "__main__":
    unittest.main()
