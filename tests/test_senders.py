"""The rule that sends wise rides alone ([27])."""

import unittest

from helper import brim, dry, error_of, fair_towns, has_complete, large_town, left_after, names_of, random_towns, rows
from ridesonce.ends import first_unfair
from ridesonce.rules import EmptiestGoal, FullestStart, KeptFirst, LastBooked, Rule
from ridesonce.senders import Wise
from ridesonce.some import some, wise_rides
from ridesonce.steps import able, go, run
from ridesonce.towns import Town

ALL_RULES = (Rule, LastBooked, FullestStart, EmptiestGoal, KeptFirst)


def free_town():
    """A fair town in which all rides but the last are wise, and rules differ."""
    stations = [("a", 9, 3), ("b", 9, 5), ("c", 9, 1), ("d", 9, 7), ("e", 9, 0)]
    rides = [("r0", "a", "b", True), ("r1", "d", "b", False), ("r2", "b", "a", True), ("r3", "c", "d", True),
             ("r4", "a", "street", True), ("r5", "street", "c", True), ("r6", "e", "a", True)]
    return Town(stations, [*rides, ("r7", "d", "e", True)])


class WiseTest(unittest.TestCase):
    def test_a_rule_with_its_own_methods(self):
        self.assertTrue(issubclass(Wise, Rule))
        self.assertTrue({"choices", "rank"} <= set(vars(Wise)))

    def test_choices_are_the_wise_rides(self):
        after = go(dry(), "r3")
        self.assertEqual(Rule().choices(after), ["r1", "r4"])
        for make in ALL_RULES:
            self.assertEqual(Wise(make()).choices(after), ["r1"])
            self.assertEqual(Wise(make()).choices(Town.empty()), [])
        for town in fair_towns(300, 81):
            self.assertEqual(Wise(LastBooked()).choices(town), wise_rides(town))

    def test_ranks_are_those_of_the_rule(self):
        for make in ALL_RULES:
            for town in [free_town(), dry(), brim()] + random_towns(40, 82):
                for name in names_of(town):
                    self.assertEqual(Wise(make()).rank(town, name), make().rank(town, name))

    def test_picks_by_rank_among_the_wise(self):
        self.assertEqual(wise_rides(free_town()), ["r0", "r1", "r2", "r3", "r4", "r5", "r7"])
        picked = [Wise(make()).pick(free_town()) for make in ALL_RULES]
        self.assertEqual(picked, ["r0", "r7", "r1", "r4", "r7"])
        self.assertEqual(LastBooked().pick(go(dry(), "r3")), "r4")
        self.assertEqual(Wise(LastBooked()).pick(go(dry(), "r3")), "r1")
        self.assertIsNone(Wise(Rule()).pick(Town.empty()))

    def test_goes_on_to_the_end(self):
        self.assertEqual(LastBooked()(dry())[0], ["r3", "r4"])
        order, town = Wise(LastBooked())(dry())
        self.assertEqual((order, town.rides), (["r3", "r1", "r2", "r4"], ()))
        self.assertEqual(Wise(Rule())(Town.empty())[0], [])

    def test_stops_at_once_beside_a_dead_lot(self):
        stuck = run(dry(), ["r3", "r4"]).with_ride("x", "c", "street")
        self.assertEqual(able(stuck), ["x"])
        order, town = Wise(Rule())(stuck)
        self.assertEqual((order, rows(town)), ([], rows(stuck)))
        self.assertIsNone(Wise(Rule()).pick(stuck))

    def test_against_all_orders(self):
        stops = 0
        for town in fair_towns(300, 83):
            for make in (Rule, LastBooked, KeptFirst):
                order, last = Wise(make())(town)
                if has_complete(town):
                    self.assertEqual(left_after(town, order), [])
                else:
                    self.assertEqual((order, rows(last)), ([], rows(town)))
                    stops += 1
        self.assertGreater(stops, 2)

    def test_each_step_is_the_least_rank_among_the_wise(self):
        for town in fair_towns(60, 84):
            for make in ALL_RULES:
                now = town
                for name in Wise(make())(town)[0]:
                    ranked = [(make().rank(now, one), at, one) for at, one in enumerate(names_of(now))
                              if one in able(now) and some(go(now, one))[0] == "yes"]
                    self.assertEqual(name, min(ranked)[2])
                    now = go(now, name)

    def test_wise_of_wise(self):
        twice = Wise(Wise(LastBooked()))
        self.assertEqual(twice(free_town())[0], Wise(LastBooked())(free_town())[0])
        self.assertEqual(twice.rank(free_town(), "r4"), -4)

    def test_a_rule_of_the_caller(self):
        class Backwards(Rule):
            def choices(self, town):
                return []

            def rank(self, town, name):
                return {"r0": 5, "r3": -1}.get(name, 3)

        self.assertEqual(Wise(Backwards()).pick(free_town()), "r3")
        self.assertEqual(Wise(Backwards()).choices(free_town()), wise_rides(free_town()))

    def test_12_stations_and_24_rides(self):
        for make in ALL_RULES:
            self.assertEqual(left_after(large_town(), Wise(make())(large_town())[0]), [])


class ErrorsTest(unittest.TestCase):
    def test_unfair(self):
        town = dry().without(["r3"])
        for make in ALL_RULES:
            rule = Wise(make())
            for call in (rule.choices, rule.pick, rule):
                self.assertEqual(error_of(call, town), ("NotFair", "a", -1))

    def test_unfair_towns_in_which_nobody_is_able(self):
        for town in random_towns(80, 85):
            unfair = first_unfair(town)
            for call in (Wise(Rule()).choices, Wise(Rule()).pick, Wise(Rule())):
                self.assertEqual(error_of(call, town), None if unfair is None else ("NotFair", *unfair))

    def test_rank_needs_no_fair_town(self):
        town = dry().without(["r3"])
        self.assertEqual(Wise(LastBooked()).rank(town, "r4"), -2)
        self.assertEqual(Wise(FullestStart()).rank(town, "r4"), 0)

    def test_unknown_ride(self):
        for make in ALL_RULES:
            for name in ("x", "a", "street", ""):
                self.assertEqual(error_of(Wise(make()).rank, dry(), name), ("UnknownRide", name))
                self.assertEqual(error_of(Wise(make()).rank, dry().without(["r3"]), name), ("UnknownRide", name))


if __name__ == "__main__":
    unittest.main()
