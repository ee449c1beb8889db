"""Rules that pick who goes next ([17], [18])."""

import unittest

from helper import brim, dry, error_of, names_of, random_towns, rows
from ridesonce.rules import EmptiestGoal, FullestStart, KeptFirst, LastBooked, Rule
from ridesonce.steps import able, is_stopped, run
from ridesonce.towns import Town

ALL_RULES = (Rule, LastBooked, FullestStart, EmptiestGoal, KeptFirst)


def busy():
    """A town in which each rule picks another ride."""
    stations = [("a", 9, 3), ("b", 9, 5), ("c", 9, 1), ("d", 9, 7), ("e", 9, 0)]
    rides = [("r0", "e", "d", True), ("r1", "a", "b", True), ("r2", "d", "b", False), ("r3", "b", "a", True),
             ("r4", "a", "e", True), ("r5", "c", "street", True), ("r6", "street", "b", True), ("r7", "b", "c", True)]
    return Town(stations, rides)


def ranks(rule, town):
    return [rule.rank(town, name) for name in names_of(town)]


class RankTest(unittest.TestCase):
    def test_rule(self):
        self.assertEqual(ranks(Rule(), busy()), [0] * 8)

    def test_last_booked(self):
        self.assertEqual(ranks(LastBooked(), busy()), [0, -1, -2, -3, -4, -5, -6, -7])

    def test_fullest_start(self):
        self.assertEqual(ranks(FullestStart(), busy()), [0, -3, -7, -5, -3, -1, 0, -5])

    def test_emptiest_goal(self):
        self.assertEqual(ranks(EmptiestGoal(), busy()), [7, 5, 5, 3, 0, -1, 5, 1])

    def test_kept_first(self):
        self.assertEqual(ranks(KeptFirst(), busy()), [0, -3, 999993, -5, -3, -1, 0, -5])

    def test_unknown_ride(self):
        for make in ALL_RULES:
            for name in ("a", "r8", "street", ""):
                self.assertEqual(error_of(make().rank, busy(), name), ("UnknownRide", name))

    def test_able_or_not(self):
        self.assertEqual(able(dry()), ["r3"])
        self.assertEqual(ranks(FullestStart(), dry()), [0, 0, -1, 0])
        self.assertEqual(ranks(EmptiestGoal(), dry()), [0, 0, 0, 1])

    def test_integers(self):
        for make in ALL_RULES:
            for rank in ranks(make(), busy()):
                self.assertIs(type(rank), int)


class PickTest(unittest.TestCase):
    def test_choices_are_the_able_rides(self):
        for make in ALL_RULES:
            for town in (busy(), dry(), brim(), Town.empty()):
                self.assertEqual(make().choices(town), able(town))

    def test_least_rank_and_the_first_of_several(self):
        picked = [make().pick(busy()) for make in ALL_RULES]
        self.assertEqual(picked, ["r1", "r7", "r2", "r5", "r3"])

    def test_only_unkept_rides(self):
        town = Town([("a", 3, 1), ("b", 3, 2)], [("r", "a", "b", False), ("q", "b", "a", False)])
        self.assertEqual(KeptFirst().pick(town), "q")

    def test_none_without_choices(self):
        stuck = run(dry(), ["r3", "r4"])
        for make in ALL_RULES:
            self.assertIsNone(make().pick(stuck))
            self.assertIsNone(make().pick(Town.empty()))

    def test_own_rules(self):
        class Backwards(Rule):
            def choices(self, town):
                return Rule.choices(self, town)[::-1]

        class Never(Rule):
            def choices(self, town):
                return []

        class ByName(Rule):
            def rank(self, town, name):
                return {"r3": 1, "r4": -1, "r5": -1}.get(name, 0)

        self.assertEqual(Backwards().pick(busy()), "r1")
        self.assertIsNone(Never().pick(busy()))
        self.assertEqual(Never()(busy())[0], [])
        self.assertEqual(ByName().pick(busy()), "r4")


class GoOnTest(unittest.TestCase):
    def test_examples(self):
        self.assertEqual(Rule()(dry())[0], ["r3", "r1", "r2", "r4"])
        self.assertEqual(LastBooked()(dry())[0], ["r3", "r4"])
        self.assertEqual(LastBooked()(brim())[0], ["r3", "r4"])
        self.assertEqual(Rule()(Town.empty())[0], [])

    def test_unkept_rides_go_twice(self):
        town = Town([("a", 1, 1), ("b", 1, 1)], [("r", "a", "b", False), ("q", "b", "a", False)])
        self.assertEqual(Rule()(town)[0], ["r", "q", "r", "q"])
        self.assertEqual(LastBooked()(town)[0], ["q", "r", "q", "r"])

    def test_a_tuple_of_the_list_and_the_town_after_it(self):
        for make in ALL_RULES:
            told = make()(dry())
            self.assertIs(type(told), tuple)
            self.assertIs(type(told[0]), list)
            self.assertEqual(rows(told[1]), rows(run(dry(), told[0])))

    def test_goes_on_by_pick_until_none(self):
        for town in random_towns(100, 7):
            for make in ALL_RULES:
                order, after = make()(town)
                for at, name in enumerate(order):
                    self.assertEqual(make().pick(run(town, order[:at])), name)
                self.assertTrue(is_stopped(after))
                self.assertEqual(rows(after), rows(run(town, order)))


class ClassesTest(unittest.TestCase):
    def test_bases(self):
        for below in (LastBooked, FullestStart, EmptiestGoal):
            self.assertEqual(below.__bases__, (Rule,))
        self.assertEqual(KeptFirst.__bases__, (FullestStart,))

    def test_own_methods(self):
        for method in ("choices", "rank", "pick", "__call__"):
            self.assertIn(method, vars(Rule))
        for below in (LastBooked, FullestStart, EmptiestGoal, KeptFirst):
            self.assertIn("rank", vars(below))
            self.assertFalse({"choices", "pick", "__call__"} & set(vars(below)))


if __name__ == "__main__":
    unittest.main()
