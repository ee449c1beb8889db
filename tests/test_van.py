"""The van that comes at once, and the van that comes whenever the town is stuck ([48] to [50])."""

import random
import time
import unittest

from helper import (SECONDS, brim, dry, end_numbers, error_of, fair_towns, has_complete, left_lists, lists_out_of, moves,
                    names_of, ring_towns, state_of)
from ridesonce.leftover import LeftFamily
from ridesonce.lots import dead_lots
from ridesonce.steps import run
from ridesonce.towns import Town
from ridesonce.van import van_now, van_number

RING = [("r1", "a", "b", True), ("r2", "b", "a", True)]
FULL_RING = [("f1", "y", "x", True), ("f2", "x", "y", True)]


def both_dead():
    """A dead lot of each kind, with stations whose order is not that of the rides, and one that nobody visits."""
    stations = [("b", 2, 0), ("x", 1, 1), ("n", 3, 1), ("a", 2, 0), ("y", 2, 2)]
    return Town(stations, [*FULL_RING, *RING])


def all_deeds(town):
    return [(word, station[0]) for station in town.stations for word in ("bring", "take")]


def with_deed(town, deed):
    """The town after a deed of the van, None if it cannot be made."""
    word, name = deed
    bikes = town.bikes(name) + (1 if word == "bring" else -1)
    return town.with_bikes(name, bikes) if 0 <= bikes <= town.docks(name) else None


def linked_rings(number, seed=1):
    """Towns with rings that share stations, at stations that are all empty or all full."""
    chance = random.Random(seed)
    found = []
    for _ in range(number):
        names = {level: [f"{'ef'[level]}{at}" for at in range(chance.randint(2, 4))] for level in (0, 1)}
        rides, many = [], chance.randint(4, 8)
        while many - len(rides) >= 2:
            pool = names[chance.choice([0, 0, 1])]
            row = chance.sample(pool, min(len(pool), many - len(rides), chance.choice([2, 2, 2, 3])))
            rides += [(f"r{len(rides) + at}", row[at - 1], row[at], True) for at in range(len(row))]
        # An unkept ride is two passes, so there are as many as still fit.
        for at in chance.sample(range(len(rides)), min(len(rides), 8 - len(rides), chance.randint(0, 2))):
            rides[at] = (*rides[at][:3], False)
        chance.shuffle(rides)
        found.append(Town([(name, 2, 2 * level) for level in (0, 1) for name in names[level]], rides))
    return found


class VanNowTest(unittest.TestCase):
    def test_example(self):
        town = run(dry(), ["r3", "r4"])
        prices = {("bring", "a"): 3, ("bring", "b"): 2, ("take", "c"): 0}
        self.assertEqual(van_now(town, prices), (2, [("bring", "b")]))

    def test_nothing_is_needed_without_a_dead_lot(self):
        for town in (Town.empty(), dry(), brim(), dry().without(["r1", "r2", "r3", "r4"])):
            self.assertEqual(van_now(town, {}), (0, []))
            self.assertEqual(van_now(town, {deed: 5 for deed in all_deeds(town)}), (0, []))

    def test_both_kinds_in_the_order_of_dead_lots(self):
        self.assertEqual([kind for kind, _ in dead_lots(both_dead())], ["full", "empty"])
        prices = {("bring", "a"): 7, ("bring", "b"): 9, ("take", "x"): 20, ("take", "y"): 4}
        self.assertEqual(van_now(both_dead(), prices), (11, [("take", "y"), ("bring", "a")]))
        turned = Town(both_dead().stations, [*RING, *FULL_RING])
        self.assertEqual(van_now(turned, prices), (11, [("bring", "a"), ("take", "y")]))

    def test_the_first_station_if_several_cost_the_same(self):
        prices = {("bring", "a"): 3, ("bring", "b"): 3, ("take", "y"): 3, ("take", "x"): 3}
        self.assertEqual(van_now(both_dead(), prices), (6, [("take", "x"), ("bring", "b")]))

    def test_prices_of_0_and_9999(self):
        prices = {("bring", "a"): 0, ("bring", "b"): 0, ("take", "y"): 9999}
        self.assertEqual(van_now(both_dead(), prices), (9999, [("take", "y"), ("bring", "b")]))
        self.assertEqual(van_now(both_dead(), {("bring", "a"): 0, ("take", "x"): 0}), (0, [("take", "x"), ("bring", "a")]))

    def test_none_if_a_lot_has_no_deed(self):
        useful = [("bring", "a"), ("bring", "b"), ("take", "x"), ("take", "y")]
        for deeds in lists_out_of(useful):
            words = {word for word, _ in deeds}
            self.assertEqual(van_now(both_dead(), {deed: 1 for deed in deeds}) is None, len(words) < 2)
        useless = [deed for deed in all_deeds(both_dead()) if deed not in useful]
        self.assertIsNone(van_now(both_dead(), {deed: 0 for deed in useless}))
        prices = {**{deed: 0 for deed in useless}, ("take", "x"): 1, ("bring", "a"): 1}
        self.assertEqual(van_now(both_dead(), prices), (2, [("take", "x"), ("bring", "a")]))

    def test_a_lot_is_cheapest_by_itself(self):
        stations = [(name, 1, 0) for name in "abcd"]
        town = Town(stations, [*RING, ("r3", "c", "d", True), ("r4", "d", "c", True)])
        prices = {("bring", name): price for name, price in zip("abcd", [5, 6, 8, 7])}
        self.assertEqual(van_now(town, prices), (12, [("bring", "a"), ("bring", "d")]))

    def test_behind_the_deeds_everybody_can_ride_and_behind_fewer_not(self):
        seen = set()
        for town in [both_dead(), *linked_rings(60, 301), *fair_towns(100, 302), *ring_towns(60, 303)]:
            chance = random.Random(len(town.rides))
            prices = {deed: chance.randint(0, 3) for deed in all_deeds(town)}
            price, deeds = van_now(town, prices)
            self.assertEqual(price, sum(prices[deed] for deed in deeds))
            self.assertEqual(len(deeds), len(dead_lots(town)))
            seen.add(len(deeds))
            for some in lists_out_of(deeds):
                after = town
                for deed in some:
                    after = with_deed(after, deed)
                self.assertEqual(has_complete(after), some == deeds)
        self.assertGreaterEqual(len(seen), 3)

    def test_no_cheaper_deeds(self):
        for town in [both_dead(), *linked_rings(20, 304)]:
            chance = random.Random(len(town.rides))
            prices = {deed: chance.randint(0, 9) for deed in all_deeds(town)[::-1]}
            good = []
            for deeds in lists_out_of(all_deeds(town)):
                if len(deeds) == len(dead_lots(town)):
                    after = town
                    for deed in deeds:
                        after = with_deed(after, deed) if after is not None else None
                    if after is not None and not dead_lots(after):
                        good.append(sum(prices[deed] for deed in deeds))
            self.assertEqual(van_now(town, prices)[0], min(good))

    def test_not_fair(self):
        town = Town([("a", 2, 0), ("b", 2, 0)], [("r1", "a", "b", True)])
        self.assertEqual(error_of(van_now, town, {("bring", "a"): 1}), ("NotFair", "a", -1))
        self.assertEqual(error_of(van_now, dry().without(["r4"]).with_bikes("a", 2), {}), ("NotFair", "a", 3))

    def test_the_town_need_not_be_small(self):
        rides = [(f"r{at}", "ab"[at % 2], "ba"[at % 2], True) for at in range(10)]
        self.assertEqual(van_now(Town([("a", 9, 0), ("b", 9, 0)], rides), {("bring", "b"): 8}), (8, [("bring", "b")]))


def stops(town, state):
    """The states at which the riders can stop if they go on as they like."""
    found, fresh, last = {state}, [state], set()
    while fresh:
        here = fresh.pop()
        after = [one for _, one in moves(town, here)]
        if not after:
            last.add(here)
        fresh += [one for one in after if one not in found]
        found.update(after)
    return last


def states_of_deeds(town, state):
    """The states that one deed leads to, at any station that has a free dock or a bike for it."""
    bikes, rides = state
    found = []
    for at, (_, docks, _) in enumerate(town.stations):
        for step in (1, -1):
            if 0 <= bikes[at] + step <= docks:
                found.append((bikes[:at] + (bikes[at] + step,) + bikes[at + 1:], rides))
    return found


def is_enough(town, state, number, known):
    """Whether so many deeds bring everybody home from a stop, if the van chooses well."""
    if not state[1] or number == 0:
        return not state[1]
    if (state, number) not in known:
        known[state, number] = any(all(is_enough(town, stop, number - 1, known) for stop in stops(town, after))
                                   for after in states_of_deeds(town, state))
    return known[state, number]


def by_game(town):
    """The number of deeds, by going through the game of the van and the riders."""
    known, number = {}, 0
    while not all(is_enough(town, stop, number, known) for stop in stops(town, state_of(town))):
        number += 1
    return number


class VanNumberTest(unittest.TestCase):
    def play(self, town, plan):
        """The most deeds that the plan uses, played against every order of the riders."""
        names = [station[0] for station in town.stations]
        most, fresh = {}, [(state_of(town), 0)]
        while fresh:
            state, used = fresh.pop()
            if most.get(state, -1) >= used:
                continue
            most[state] = used
            after = moves(town, state)
            fresh += [(one, used) for _, one in after]
            if state[1] and not after:
                word, station = plan[tuple(ride[0] for ride in state[1])]
                at, step = names.index(station), {"bring": 1, "take": -1}[word]
                bikes = state[0][:at] + (state[0][at] + step,) + state[0][at + 1:]
                self.assertTrue(0 <= bikes[at] <= town.docks(station))
                self.assertLessEqual(used, len(town.rides))
                fresh.append(((bikes, state[1]), used + 1))
        return max(most.values())

    def check(self, town):
        number, plan = van_number(town)
        self.assertEqual(self.play(town, plan), number)
        for names in LeftFamily(town):
            self.assertEqual(names in plan, names != ())
        for names, (word, station) in plan.items():
            self.assertEqual(list(names), [name for name in names_of(town) if name in names])
            self.assertIn(word, ("bring", "take"))
            self.assertIn(station, end_numbers(town))
        return number

    def test_example(self):
        self.assertEqual(self.check(dry()), 1)
        self.assertIn(van_number(dry())[1][("r1", "r2")], [("bring", "a"), ("bring", "b")])

    def test_a_full_ring(self):
        self.assertEqual(self.check(brim()), 1)
        self.assertIn(van_number(brim())[1][("r1", "r2")], [("take", "a"), ("take", "b")])

    def test_no_deed_where_every_order_is_complete(self):
        for town in (Town.empty(), dry().without(["r4"]), dry().only([])):
            self.assertEqual(self.check(town), 0)
            self.assertEqual(van_number(town)[0], 0)

    def test_each_lot_counts(self):
        self.assertEqual(self.check(both_dead()), 2)
        stations = [(f"s{at}", 1, 0) for at in range(8)]
        rides = [(f"r{at}", f"s{at}", f"s{at + 1 - at % 2 * 2}", True) for at in range(8)]
        self.assertEqual(self.check(Town(stations, rides)), 4)

    def test_the_station_counts(self):
        # A bike at the middle moves all rides or leaves one pair; a bike at an end may leave another pair.
        rides = [("r1", "m", "a", True), ("r2", "a", "m", True), ("r3", "m", "b", True), ("r4", "b", "m", True)]
        town = Town([("a", 1, 0), ("b", 1, 0), ("m", 1, 0)], rides)
        self.assertEqual(self.check(town), 1)
        self.assertEqual(van_number(town)[1][("r1", "r2", "r3", "r4")], ("bring", "m"))
        full = Town([("a", 1, 1), ("b", 1, 1), ("m", 1, 1)], rides)
        self.assertEqual(self.check(full), 1)
        self.assertEqual(van_number(full)[1][("r1", "r2", "r3", "r4")], ("take", "m"))

    def test_against_the_game(self):
        seen = {}
        towns = linked_rings(60, 311) + ring_towns(60, 312) + fair_towns(60, 313) + [both_dead()]
        for town in towns:
            number = self.check(town)
            self.assertEqual(number, by_game(town))
            self.assertEqual(number == 0, left_lists(town) == [()])
            seen[number] = True
        self.assertGreaterEqual(len(seen), 3)

    def test_plans_of_many_towns(self):
        seen = {}
        for town in linked_rings(300, 314) + ring_towns(100, 315):
            seen[self.check(town)] = True
        self.assertEqual(sorted(seen), [0, 1, 2, 3])

    def test_errors(self):
        self.assertEqual(error_of(van_number, dry().without(["r3"])), ("NotFair", "a", -1))
        rides = [(f"r{at}", "a", "b", True) for at in range(9)]
        self.assertEqual(error_of(van_number, Town([("a", 20, 1), ("b", 20, 0)], rides)), ("NotFair", "a", -8))
        self.assertEqual(error_of(van_number, Town([("a", 20, 9), ("b", 20, 0)], rides)), ("TooLarge", 9))
        self.assertEqual(van_number(Town([("a", 20, 9), ("b", 20, 0)], rides[:8]))[0], 0)
        unkept = [(f"r{at}", "ab"[at % 2], "ba"[at % 2], False) for at in range(6)]
        self.assertEqual(error_of(van_number, Town([("a", 9, 0), ("b", 9, 0)], unkept)), ("TooLarge", 12))

    def test_8_passes(self):
        start = time.perf_counter()
        rides = [(f"r{at}", "ab"[at % 2], "ba"[at % 2], True) for at in range(8)]
        for bikes in (0, 999999):
            self.assertEqual(self.check(Town([("a", 999999, bikes), ("b", 999999, bikes)], rides)), 1)
        self.assertEqual(self.check(Town([("a", 9, 0), ("b", 9, 0)], [(*ride[:3], False) for ride in rides[:4]])), 1)
        self.assertLess(time.perf_counter() - start, SECONDS)


if __name__ == "__main__":
    unittest.main()
