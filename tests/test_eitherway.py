"""Rides that may go either way ([32])."""

import random
import time
import unittest

from helper import (SECONDS, brim, dry, error_of, is_fair, large_town, left_after, lists_out_of, names_of,
                    random_towns, rows)
from ridesonce.eitherway import either, turn
from ridesonce.lots import dead_lots
from ridesonce.towns import Town


def limits(town, names):
    """For each station its least and its most, found by trying all integers."""
    found = {}
    for name, docks, bikes in town.stations:
        fixed = bikes + sum(ride[2] == name for ride in town.rides if ride[0] not in names)
        fixed -= sum(ride[1] == name for ride in town.rides if ride[0] not in names)
        degree = sum(name in ride[1:3] for ride in town.rides if ride[0] in names)
        least = min(number for number in range(100) if 2 * number >= degree - fixed)
        most = max(number for number in range(-100, degree + 1) if 2 * number <= docks - fixed + degree)
        found[name] = (least, most)
    return found


def shows(town, names, told):
    """Whether the numbers of a refusal are as the document says."""
    _, word, stations = told
    if stations != [station[0] for station in town.stations if station[0] in stations]:
        return False
    numbers = [limits(town, names)[name] for name in stations]
    rides = [ride for ride in town.rides if ride[0] in names]
    if word == "alone":
        return len(stations) == 1 and numbers[0][0] > numbers[0][1]
    if word == "inside":
        both = [ride for ride in rides if ride[1] in stations and ride[2] in stations]
        return len(both) > sum(most for _, most in numbers)
    one = [ride for ride in rides if ride[1] in stations or ride[2] in stations]
    return word == "touching" and len(one) < sum(least for least, _ in numbers)


def fair_turns(town, names):
    return [part for part in lists_out_of([name for name in names_of(town) if name in names])
            if is_fair(turn(town, part))]


class TurnTest(unittest.TestCase):
    def test_exchanges_start_and_goal(self):
        town = turn(dry(), ["r4", "r2"])
        expected = [("r1", "a", "b", True), ("r2", "a", "b", True), ("r3", "c", "a", True), ("r4", "c", "a", True)]
        self.assertEqual(rows(town), (dry().stations, tuple(expected)))
        self.assertEqual(rows(turn(dry(), [])), rows(dry()))
        self.assertEqual(rows(turn(Town.empty(), [])), ((), ()))

    def test_keeps_the_street_and_the_unkept(self):
        town = Town([("a", 2, 0), ("b", 2, 0)],
                    [("in", "street", "a", True), ("out", "a", "street", True), ("u", "a", "b", False)])
        expected = (("in", "a", "street", True), ("out", "street", "a", True), ("u", "b", "a", False))
        self.assertEqual(turn(town, ["in", "out", "u"]).rides, expected)

    def test_twice_is_the_town_itself(self):
        for town in random_towns(50, 101):
            names = names_of(town)[::2]
            self.assertEqual(rows(turn(turn(town, names), names)), rows(town))

    def test_unknown_rides(self):
        for call in (turn, either):
            self.assertEqual(error_of(call, dry(), ["r1", "x", "y"]), ("UnknownRide", "x"))
            self.assertEqual(error_of(call, dry(), ["street"]), ("UnknownRide", "street"))
            self.assertEqual(error_of(call, dry(), ["a"]), ("UnknownRide", "a"))
            self.assertEqual(error_of(call, Town.empty(), ["r1"]), ("UnknownRide", "r1"))


class EitherTest(unittest.TestCase):
    def check(self, town, names, told):
        if told[0] == "yes":
            self.assertEqual(told[1], [name for name in names_of(town) if name in told[1]])
            self.assertLessEqual(set(told[1]), set(names))
            self.assertTrue(is_fair(turn(town, told[1])))
            self.assertEqual(left_after(turn(town, told[1]), told[2]), [])
        elif told[1] in ("empty", "full"):
            self.assertEqual(told[1:], dead_lots(town)[0])
        else:
            self.assertTrue(shows(town, names, told), told)

    def test_examples(self):
        town = Town([("a", 2, 1), ("b", 1, 1)], [("r1", "a", "b", True)])
        self.assertEqual(either(town, ["r1"]), ("yes", ["r1"], ["r1"]))
        town = Town([("a", 1, 1), ("b", 1, 1)], [("r1", "a", "b", True)])
        self.assertEqual(either(town, ["r1"]), ("no", "inside", ["a", "b"]))
        self.assertEqual(either(Town.empty(), []), ("yes", [], []))

    def test_no_names(self):
        self.assertEqual(either(dry(), [])[:2], ("yes", []))
        self.assertEqual(left_after(dry(), either(dry(), [])[2]), [])
        self.assertEqual(either(dry().without(["r3"]), []), ("no", "alone", ["a"]))

    def test_alone(self):
        town = Town([("a", 1, 0), ("b", 9, 9)], [("r1", "a", "b", True), ("r2", "a", "b", True), ("r3", "b", "a", True)])
        self.assertEqual(either(town, ["r3"]), ("no", "alone", ["a"]))

    def test_inside(self):
        # Three rides among two full stations, one of which has a ride to the street.
        town = Town([("c", 3, 3), ("a", 2, 2), ("b", 2, 2)],
                    [("r0", "a", "b", True), ("r1", "b", "a", True), ("r2", "a", "b", False), ("r3", "c", "b", True)])
        names = ["r0", "r1", "r2"]
        told = either(town, names)
        self.assertEqual(told[:2], ("no", "inside"))
        self.check(town, names, told)

    def test_touching(self):
        town = Town([("a", 2, 0), ("b", 2, 0), ("c", 2, 1)], [("r0", "a", "b", True), ("r1", "c", "a", True)])
        self.assertEqual(either(town, ["r0"])[:2], ("yes", []))
        town = Town([("a", 2, 0), ("b", 2, 0)], [("r0", "a", "b", True)])
        self.assertEqual(either(town, ["r0"]), ("no", "touching", ["a", "b"]))

    def test_the_street_takes_and_gives(self):
        town = Town([("a", 2, 0), ("b", 2, 0)], [("r0", "a", "b", True), ("r1", "a", "street", True)])
        told = either(town, ["r0", "r1"])
        self.assertEqual(told[:2], ("yes", ["r1"]))
        self.check(town, ["r0", "r1"], told)
        full = Town([("a", 1, 1), ("b", 1, 1)], [("r0", "a", "b", True), ("r1", "street", "b", True)])
        told = either(full, ["r1", "r0"])
        self.assertEqual(told[:2], ("yes", ["r1"]))
        self.check(full, ["r0", "r1"], told)

    def test_dead_lots_come_last(self):
        dead = [("r0", "a", "b", True), ("r1", "b", "a", True)]
        town = Town([("c", 2, 0), ("d", 2, 0), ("a", 2, 0), ("b", 2, 0)], dead)
        self.assertEqual(either(town, ["r0", "r1"]), ("no", "empty", ["r0", "r1"]))
        self.assertEqual(either(town, ["r1"]), ("no", "empty", ["r0", "r1"]))
        unfair = town.with_ride("r2", "c", "d")
        self.assertEqual(either(unfair, ["r2"]), ("no", "touching", ["c", "d"]))
        same = Town(town.stations, [("r0", "a", "b", True), ("r1", "a", "b", True)])
        self.assertEqual(either(same, ["r0", "r1"]), ("no", "empty", ["r0", "r1"]))

    def test_against_all_directions(self):
        words = {}
        chance = random.Random(102)
        for town in random_towns(1500, 103):
            names = [name for name in names_of(town) if chance.random() < 0.8]
            chance.shuffle(names)
            told = either(town, names)
            words[told[1] if told[0] == "no" else "yes"] = True
            self.check(town, names, told)
            fair = fair_turns(town, names)
            self.assertEqual(told[0] == "no" and told[1] not in ("empty", "full"), fair == [])
            if told[0] == "yes":
                self.assertIn(told[1], fair)
                self.assertEqual(dead_lots(town), [])
        self.assertEqual(len(words), 6)

    def test_limits_are_those_of_fair_turns(self):
        for town in random_towns(60, 104, most_stations=3):
            names = names_of(town)
            numbers = limits(town, names)
            for part in fair_turns(town, names):
                turned = turn(town, part)
                for name, (least, most) in numbers.items():
                    ending = sum(ride[2] == name for ride in turned.rides)
                    self.assertTrue(least <= ending <= most)

    def test_the_town_need_not_be_fair(self):
        town = dry().without(["r3"])
        told = either(town, ["r4"])
        self.assertEqual(told[:2], ("yes", ["r4"]))
        self.check(town, ["r4"], told)

    def test_12_stations_and_24_rides(self):
        start = time.perf_counter()
        chance = random.Random(105)
        words = {}
        towns = [large_town()]
        for at in range(60):
            levels = ((0,), (999999,), (0, 500000, 500000, 999999))[at % 3]
            bikes = [chance.choice(levels) for _ in range(12)]
            stations = [(f"s{k}", 999999, number) for k, number in enumerate(bikes)]
            ends = [chance.sample([station[0] for station in stations] + ["street"] * (at % 3), 2) for _ in range(24)]
            ends = [pair if pair[0] != pair[1] else ["s0", "s1"] for pair in ends]
            rides = [(f"r{k}", *pair, "street" in pair or chance.random() < 0.5) for k, pair in enumerate(ends)]
            towns.append(Town(stations, rides))
        for town in towns:
            for names in (names_of(town), names_of(town)[:20]):
                told = either(town, names)
                words[told[1] if told[0] == "no" else "yes"] = True
                self.check(town, names, told)
        self.assertEqual(set(words), {"yes", "alone", "inside", "touching"})
        self.assertLess(time.perf_counter() - start, SECONDS)

    def test_a_long_row_has_to_be_turned(self):
        rides = [(f"r{at}", f"s{at}", f"s{at + 1}", True) for at in range(11)]
        stations = [("s0", 1, 0)] + [(f"s{at}", 1, 1) for at in range(1, 11)] + [("s11", 2, 1)]
        told = either(Town(stations, rides), [ride[0] for ride in rides])
        self.assertEqual(told[:2], ("yes", [ride[0] for ride in rides]))
        full = Town([("s0", 1, 1)] + stations[1:11] + [("s11", 1, 1)], rides)
        self.assertEqual(either(full, names_of(full)), ("no", "inside", [f"s{at}" for at in range(12)]))

    def test_brim(self):
        self.check(brim(), ["r3", "r4"], either(brim(), ["r3", "r4"]))
        self.assertEqual(either(brim(), ["r3", "r4"])[0], "yes")


if __name__ == "__main__":
    unittest.main()
