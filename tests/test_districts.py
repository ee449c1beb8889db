"""Districts, how they are joined and closed, and how a town is cut ([51], [52], [57])."""

import random
import unittest

from helper import dry, error_of, fair_towns, lists_out_of, names_of, random_towns, rows
from pieces import part_a, random_district, random_districts, told
from ridesonce.districts import District, cut_town
from ridesonce.notes import answer_of
from ridesonce.towns import Town

ABC = [("a", 2, 0), ("b", 2, 0), ("c", 2, 1)]


def stations_of(many, letter="s"):
    return [(f"{letter}{at}", 2, 1) for at in range(many)]


def names(many, letter="p"):
    return [f"{letter}{at}" for at in range(many)]


def street_rides(many, place, letter="r"):
    return [(f"{letter}{at}", place, "street", True) for at in range(many)]


class DistrictTest(unittest.TestCase):
    def test_attributes(self):
        district = part_a()
        self.assertEqual(district.stations, (("x", 1, 0),))
        self.assertEqual(district.border, ("p", "q"))
        self.assertEqual(district.rides, (("r1", "p", "x", True), ("r2", "x", "q", True)))
        for row in (*told(district), *district.stations, *district.rides):
            self.assertIs(type(row), tuple)

    def test_nothing(self):
        self.assertEqual(told(District([], [], [])), ((), (), ()))
        self.assertEqual(told(District([], ["p"], [])), ((), ("p",), ()))

    def test_the_order_stays_as_it_was_passed(self):
        district = District([("z", 1, 0), ("a", 1, 1)], ["q", "b", "p"], [("z", "q", "a", False), ("a", "street", "b", True)])
        self.assertEqual([row[0] for row in district.stations], ["z", "a"])
        self.assertEqual(district.border, ("q", "b", "p"))
        self.assertEqual(district.rides, (("z", "q", "a", False), ("a", "street", "b", True)))

    def test_every_place_can_be_an_end(self):
        places = ["x", "y", "p", "q", "street"]
        for start in places:
            for goal in places:
                rides = [("r", start, goal, True)]
                expected = None if start != goal else ("SameEnds", "r")
                self.assertEqual(error_of(District, [("x", 1, 0), ("y", 1, 0)], ["p", "q"], rides), expected)

    def test_a_ride_may_have_the_name_of_a_station(self):
        self.assertIsNone(error_of(District, [("x", 1, 0)], ["p"], [("x", "p", "x", True), ("p", "x", "p", True)]))

    def test_limits(self):
        self.assertIsNone(error_of(District, stations_of(12), names(6), street_rides(24, "p0")))
        self.assertEqual(error_of(District, stations_of(13), names(6), []), ("TooLarge", 13))
        self.assertEqual(error_of(District, stations_of(12), names(7), []), ("TooLarge", 7))
        self.assertEqual(error_of(District, stations_of(12), names(6), street_rides(25, "p0")), ("TooLarge", 25))
        self.assertEqual(error_of(District, stations_of(14), names(9), street_rides(30, "p0")), ("TooLarge", 14))
        self.assertEqual(error_of(District, stations_of(1), names(9), street_rides(30, "p0")), ("TooLarge", 9))

    def test_too_large_comes_before_all_others(self):
        self.assertEqual(error_of(District, [("A", 0, 0)], ["Q"] * 7, []), ("TooLarge", 7))
        self.assertEqual(error_of(District, [("A", 0, 0)], ["Q"], [("R", "x", "x", False)] * 25), ("TooLarge", 25))

    def test_inner_stations(self):
        for row, expected in ((("A", 0, 5), ("BadName", "A")), (("street", 1, 0), ("BadName", "street")),
                              (("abcdefghi", 1, 0), ("BadName", "abcdefghi")), (("", 1, 0), ("BadName", "")),
                              (("y", 0, 0), ("BadNumber", 0)), (("y", 1000000, 0), ("BadNumber", 1000000)),
                              (("y", 2, 3), ("BadNumber", 3)), (("y", 2, -1), ("BadNumber", -1)),
                              (("x", 0, 9), ("Duplicate", "x")), (("y", 999999, 999999), None)):
            self.assertEqual(error_of(District, [("x", 1, 0), row], ["p"], []), expected)

    def test_border_names(self):
        for name, expected in (("A", ("BadName", "A")), ("street", ("BadName", "street")), ("9p", ("BadName", "9p")),
                               ("", ("BadName", "")), ("x", ("Duplicate", "x")), ("p", ("Duplicate", "p")), ("r", None)):
            self.assertEqual(error_of(District, [("x", 1, 0)], ["p", name], [("r", "p", "x", True)]), expected)

    def test_rides(self):
        for ride, expected in ((("R", "p", "z", False), ("BadName", "R")), (("r1", "z", "z", True), ("Duplicate", "r1")),
                               (("r2", "z", "y", True), ("UnknownStation", "z")),
                               (("r2", "p", "y", True), ("UnknownStation", "y")), (("r2", "p", "p", True), ("SameEnds", "r2")),
                               (("r2", "street", "street", False), ("SameEnds", "r2")),
                               (("r2", "p", "street", False), ("NotKept", "r2")),
                               (("r2", "street", "x", False), ("NotKept", "r2")), (("r2", "x", "p", False), None)):
            self.assertEqual(error_of(District, [("x", 1, 0)], ["p"], [("r1", "p", "x", True), ride]), expected)

    def test_groups_are_looked_at_one_after_another(self):
        self.assertEqual(error_of(District, [("x", 1, 0), ("y", 2, 3)], ["X"], [("R", "x", "y", True)]), ("BadNumber", 3))
        self.assertEqual(error_of(District, [("x", 1, 0)], ["p", "x", "X"], [("R", "x", "p", True)]), ("Duplicate", "x"))
        self.assertEqual(error_of(District, [("x", 1, 0)], ["X", "x"], [("R", "x", "p", True)]), ("BadName", "X"))
        self.assertEqual(error_of(District, [("x", 1, 0)], ["p"], [("r", "x", "q", True), ("R", "x", "p", True)]),
                         ("UnknownStation", "q"))


class JoinTest(unittest.TestCase):
    def test_groups_follow_each_other(self):
        first = District([("x", 1, 0)], ["q", "b"], [("r2", "q", "x", True)])
        second = District([("a", 2, 1), ("y", 1, 1)], ["c", "b", "a1", "q"], [("r1", "c", "y", False)])
        joined = first + second
        self.assertEqual(told(joined), ((("x", 1, 0), ("a", 2, 1), ("y", 1, 1)), ("q", "b", "c", "a1"),
                                        (("r2", "q", "x", True), ("r1", "c", "y", False))))
        self.assertEqual((second + first).border, ("c", "b", "a1", "q"))
        self.assertIsInstance(joined, District)

    def test_with_nothing(self):
        nothing = District([], [], [])
        self.assertEqual(told(part_a() + nothing), told(part_a()))
        self.assertEqual(told(nothing + part_a()), told(part_a()))
        self.assertEqual(told(nothing + nothing), ((), (), ()))

    def test_limits(self):
        first = District(stations_of(6), names(3), street_rides(12, "p0"))
        for inner, border, rides, expected in ((6, 3, 12, None), (7, 4, 13, ("TooLarge", 13)), (6, 4, 13, ("TooLarge", 7)),
                                               (6, 3, 13, ("TooLarge", 25)), (12, 0, 12, ("TooLarge", 18))):
            second = District(stations_of(inner, "t"), names(border, "q"), street_rides(rides, "t0", "u"))
            self.assertEqual(error_of(lambda: first + second), expected)

    def test_a_border_station_of_both_counts_once(self):
        first = District([], names(6), [])
        self.assertEqual((first + District([], names(6)[::-1], [])).border, tuple(names(6)))
        self.assertEqual(error_of(lambda: first + District([], ["q", *names(5)], [])), ("TooLarge", 7))
        self.assertEqual(error_of(lambda: District([], names(5), []) + District([], [*names(2, "q"), "p0"], [])),
                         ("TooLarge", 7))

    def test_a_border_station_counts_whatever_its_name(self):
        # It has the name of an inner station of the first, and counts before this is seen.
        first = District([("x", 1, 0)], names(6), [])
        self.assertEqual(error_of(lambda: first + District([], ["x"], [])), ("TooLarge", 7))
        first = District([("x", 1, 0)], names(5), [])
        self.assertEqual(error_of(lambda: first + District([], ["x"], [])), ("Duplicate", "x"))

    def test_too_large_comes_before_duplicates(self):
        first = District(stations_of(7), names(4), street_rides(13, "p0"))
        self.assertEqual(error_of(lambda: first + first), ("TooLarge", 14))
        first = District([], names(4), street_rides(13, "p0"))
        self.assertEqual(error_of(lambda: first + first), ("TooLarge", 26))

    def test_duplicates(self):
        first = District([("x", 1, 0), ("y", 1, 0)], ["p", "q"], [("r", "x", "p", True), ("s", "p", "q", True)])
        for stations, border, rides, name in (
                ([("z", 1, 0), ("y", 2, 2)], [], [], "y"), ([("z", 1, 0), ("q", 2, 2)], [], [], "q"),
                ([("q", 2, 2), ("y", 1, 0)], ["x"], [("s", "q", "x", True)], "q"),
                ([], ["z", "y", "x"], [("r", "z", "y", True)], "y"), ([], ["p", "q"], [("t", "p", "q", True),
                                                                                    ("s", "q", "p", True)], "s")):
            self.assertEqual(error_of(lambda: first + District(stations, border, rides)), ("Duplicate", name))

    def test_names_that_do_no_harm(self):
        first = District([("x", 1, 0)], ["p"], [("r", "x", "p", True)])
        second = District([("r", 1, 0)], ["p"], [("x", "r", "p", True), ("p", "p", "r", True)])
        self.assertEqual(len((first + second).rides), 3)

    def test_both_stay_as_they_were(self):
        first, second = part_a(), District([("y", 1, 0)], ["q", "p"], [("r3", "q", "y", True)])
        before = (told(first), told(second))
        first + second
        error_of(lambda: first + first)
        self.assertEqual((told(first), told(second)), before)


class CloseTest(unittest.TestCase):
    def test_it_becomes_the_last_inner_station(self):
        district = District([("x", 1, 0)], ["q", "p", "b"], [("r1", "p", "x", True)]).close("p", 3, 2)
        self.assertEqual(told(district), ((("x", 1, 0), ("p", 3, 2)), ("q", "b"), (("r1", "p", "x", True),)))
        self.assertEqual(told(district.close("b", 1, 1))[:2], ((("x", 1, 0), ("p", 3, 2), ("b", 1, 1)), ("q",)))

    def test_errors_in_their_order(self):
        full = District(stations_of(12), ["p"], [])
        for district, values, expected in (
                (part_a(), ("x", 0, 9), ("UnknownStation", "x")), (part_a(), ("street", 0, 9), ("UnknownStation", "street")),
                (part_a(), ("", 0, 9), ("UnknownStation", "")), (full, ("q", 0, 9), ("UnknownStation", "q")),
                (full, ("p", 0, 9), ("TooLarge", 13)), (full, ("p", 2, 1), ("TooLarge", 13)),
                (part_a(), ("p", 0, 9), ("BadNumber", 0)), (part_a(), ("p", -1, 9), ("BadNumber", -1)),
                (part_a(), ("p", 1000000, -1), ("BadNumber", 1000000)), (part_a(), ("p", 2, 3), ("BadNumber", 3)),
                (part_a(), ("p", 2, -1), ("BadNumber", -1)), (part_a(), ("p", 999999, 0), None),
                (part_a(), ("p", 1, 1), None)):
            self.assertEqual(error_of(district.close, *values), expected)

    def test_the_twelfth_can_be_closed(self):
        self.assertEqual(len(District(stations_of(11), ["p"], []).close("p", 2, 1).stations), 12)

    def test_the_district_stays_as_it_was(self):
        district = part_a()
        district.close("p", 1, 0)
        self.assertEqual(told(district), told(part_a()))


class AsTownTest(unittest.TestCase):
    def test_town(self):
        town = part_a().close("q", 2, 0).close("p", 4, 3).as_town()
        self.assertIsInstance(town, Town)
        self.assertEqual(rows(town), ((("x", 1, 0), ("q", 2, 0), ("p", 4, 3)), part_a().rides))
        self.assertEqual(rows(District([], [], []).as_town()), ((), ()))

    def test_first_border_station(self):
        self.assertEqual(error_of(part_a().as_town), ("OpenBorder", "p"))
        self.assertEqual(error_of(District([], ["z", "a"], []).as_town), ("OpenBorder", "z"))
        self.assertEqual(error_of(part_a().close("p", 1, 0).as_town), ("OpenBorder", "q"))

    def test_large(self):
        self.assertEqual(len(District(stations_of(12), [], street_rides(24, "s0")).as_town().rides), 24)


class CutTownTest(unittest.TestCase):
    def test_dry(self):
        first, second, between = cut_town(dry(), ["r2", "r1"])
        self.assertEqual(told(first), ((("b", 2, 0),), ("a",), dry().rides[:2]))
        self.assertEqual(told(second), ((("c", 2, 1),), ("a",), dry().rides[2:]))
        self.assertEqual(between, [("a", 2, 0)])
        self.assertIs(type(between), list)

    def test_all_rides_or_none(self):
        first, second, between = cut_town(dry(), [])
        self.assertEqual((told(first), told(second), between), (((), (), ()), (dry().stations, (), dry().rides), []))
        first, second, between = cut_town(dry(), names_of(dry()))
        self.assertEqual((told(first), told(second), between), ((dry().stations, (), dry().rides), ((), (), ()), []))
        first, second, between = cut_town(Town.empty(), [])
        self.assertEqual((told(first), told(second), between), (((), (), ()), ((), (), ()), []))

    def test_stations_without_rides_are_in_the_second(self):
        town = Town([("n", 1, 0), *ABC, ("m", 1, 1)], dry().rides)
        for chosen in lists_out_of(names_of(town)):
            self.assertEqual([row[0] for row in cut_town(town, chosen)[1].stations if row[0] in "nm"], ["n", "m"])

    def test_stations_stand_in_town_order(self):
        town = Town(ABC, [("r1", "c", "a", True), ("r2", "b", "a", True), ("r3", "c", "street", True),
                          ("r4", "street", "b", True)])
        first, second, between = cut_town(town, ["r2", "r1"])
        self.assertEqual((first.border, second.border, between), (("b", "c"), ("b", "c"), [ABC[1], ABC[2]]))
        self.assertEqual((first.rides, second.rides), (town.rides[:2], town.rides[2:]))
        self.assertEqual(cut_town(town, ["r4", "r1"])[0].rides, (town.rides[0], town.rides[3]))

    def test_the_street_is_no_border(self):
        town = Town(ABC, [("r1", "street", "a", True), ("r2", "street", "b", True)])
        self.assertEqual(cut_town(town, ["r1"])[2], [])

    def test_unknown_rides(self):
        self.assertEqual(error_of(cut_town, dry(), ["r1", "x", "y"]), ("UnknownRide", "x"))
        self.assertEqual(error_of(cut_town, dry(), ["a"]), ("UnknownRide", "a"))

    def test_at_most_6_border_stations(self):
        ring = [(f"r{at}", f"s{at % 7}", f"s{(at + 1) % 7}", True) for at in range(14)]
        town = Town(stations_of(7), ring)
        self.assertEqual(error_of(cut_town, town, [f"r{at}" for at in range(7)]), ("TooLarge", 7))
        self.assertEqual(len(cut_town(town, [f"r{at}" for at in range(5)])[2]), 6)
        self.assertEqual(error_of(cut_town, town, [f"r{at}" for at in range(7)] + ["x"]), ("UnknownRide", "x"))
        town = Town(stations_of(12), [(f"r{at}", f"s{at % 12}", f"s{(at + 1) % 12}", True) for at in range(24)])
        self.assertEqual(error_of(cut_town, town, names(12, "r")), ("TooLarge", 12))

    def test_joining_and_closing_again_gives_the_town_back(self):
        chance = random.Random(331)
        for town in random_towns(200, 332) + fair_towns(200, 333) + [Town.empty(), dry()]:
            chosen = [name for name in names_of(town) if chance.random() < 0.5]
            first, second, between = cut_town(town, chance.sample(chosen, len(chosen)))
            self.assertEqual(sorted(first.rides + second.rides), sorted(town.rides))
            self.assertEqual(sorted(first.stations + second.stations + tuple(between)), sorted(town.stations))
            self.assertEqual((first.border, second.border), (tuple(row[0] for row in between),) * 2)
            joined = first + second if chance.random() < 0.5 else second + first
            for row in chance.sample(between, len(between)):
                joined = joined.close(*row)
            self.assertEqual(sorted(joined.as_town().stations), sorted(town.stations))
            self.assertEqual(answer_of(joined.as_town()), answer_of(town))


class RandomDistrictsTest(unittest.TestCase):
    def test_joining_is_told_by_its_groups(self):
        chance = random.Random(334)
        for first in random_districts(100, 335):
            second = random_district(chance, chance.sample(["a", "z", "s", "b"], 2), "j")
            joined = first + second
            self.assertEqual(joined.stations, first.stations + second.stations)
            self.assertEqual(joined.rides, first.rides + second.rides)
            self.assertEqual(joined.border, tuple(dict.fromkeys(first.border + second.border)))


if __name__ == "__main__":
    unittest.main()
