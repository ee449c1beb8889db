"""Who has to ride first, or not at all, so that all others ride in every order ([47])."""

import time
import unittest

from helper import (SECONDS, brim, dry, error_of, fair_towns, has_complete, is_fair, left_lists, lists_out_of, moves,
                    names_of, random_towns, reached_states, standing_of, state_after)
from ridesonce.ahead import ahead, call_off
from ridesonce.every import every
from ridesonce.lots import dead_lots
from ridesonce.towns import Town

RING = [("r1", "a", "b", True), ("r2", "b", "a", True)]


def surely_done(town, state, known):
    """Whether every way on from a state brings everybody home."""
    if state not in known:
        after = [surely_done(town, one, known) for _, one in moves(town, state)]
        known[state] = all(after) if after else not state[1]
    return known[state]


def by_search(town):
    """The names of ahead, out of all states of the town."""
    known, good = {}, []
    for state in reached_states(town):
        done, road = standing_of(town, state)
        if not road and surely_done(town, state, known):
            good.append(done)
    places = [names for names in lists_out_of(names_of(town)) if names in good]
    return places[0] if places else None


class AheadTest(unittest.TestCase):
    def check(self, town):
        told = ahead(town)
        if told is not None:
            names, order = told
            state = state_after(town, order)
            self.assertIsNotNone(state)
            self.assertEqual(standing_of(town, state), (names, []))
        return told

    def test_examples(self):
        self.assertEqual(ahead(dry()), (["r1", "r3"], ["r3", "r1"]))
        self.assertEqual(ahead(Town.empty()), ([], []))

    def test_nobody_where_every_order_is_complete(self):
        self.assertEqual(ahead(dry().without(["r4"])), ([], []))

    def test_none_beside_a_dead_lot(self):
        stations = [("a", 2, 0), ("b", 2, 0), ("c", 2, 1)]
        self.assertIsNone(ahead(Town(stations, RING)))
        self.assertIsNone(ahead(Town(stations, [*RING, ("r3", "c", "street", True)])))

    def test_first_by_positions(self):
        self.assertEqual(self.check(brim())[0], by_search(brim()))
        rides = [("z", "c", "a", True), ("y", "a", "c", True), *RING]
        town = Town(dry().stations, rides)
        self.assertEqual(self.check(town)[0], ["z", "r1"])

    def test_riders_count_not_steps(self):
        # One unkept rider makes two steps, but is one rider.
        town = Town([("a", 2, 0), ("b", 2, 0), ("c", 2, 1)],
                    [("u", "c", "a", False), ("r1", "a", "b", False), ("r2", "b", "a", True), ("r4", "a", "c", True)])
        self.assertEqual(self.check(town)[0], by_search(town))
        self.assertEqual(len(ahead(town)[0]), 2)
        self.assertEqual(len(ahead(town)[1]), 4)

    def test_nobody_is_on_the_road_then(self):
        for town in fair_towns(100, 191):
            if ahead(town) is not None:
                state = state_after(town, ahead(town)[1])
                self.assertEqual(standing_of(town, state)[1], [])

    def test_against_all_orders(self):
        lengths = {}
        for town in fair_towns(500, 192):
            told = self.check(town)
            self.assertEqual(told is None, not has_complete(town))
            self.assertEqual(told is None, dead_lots(town) != [])
            self.assertEqual(None if told is None else told[0], by_search(town))
            lengths[None if told is None else len(told[0])] = True
        self.assertGreaterEqual(len(lengths), 5)

    def test_errors(self):
        rides = [(f"r{at}", "a", "b", True) for at in range(9)]
        self.assertEqual(error_of(ahead, dry().without(["r3"])), ("NotFair", "a", -1))
        self.assertEqual(error_of(ahead, Town([("a", 20, 1), ("b", 20, 0)], rides)), ("NotFair", "a", -8))
        self.assertEqual(error_of(ahead, Town([("a", 20, 9), ("b", 20, 0)], rides)), ("TooLarge", 9))
        self.assertEqual(ahead(Town([("a", 20, 9), ("b", 20, 0)], rides[:8])), ([], []))
        dead = Town([("a", 20, 0), ("b", 20, 0)], [(f"r{at}", "ab"[at % 2], "ba"[at % 2], True) for at in range(10)])
        self.assertEqual(error_of(ahead, dead), ("TooLarge", 10))


class CallOffTest(unittest.TestCase):
    def by_search(self, town):
        """The names of call_off, out of all lists of riders and all orders of the others."""
        for names in lists_out_of(names_of(town)):
            rest = Town(list(town.stations), [ride for ride in town.rides if ride[0] not in names])
            if is_fair(rest) and left_lists(rest) == [()]:
                return names
        return None

    def test_examples(self):
        self.assertEqual(call_off(dry()), ["r4"])
        self.assertEqual(call_off(Town.empty()), [])
        self.assertEqual(call_off(dry().without(["r4"])), [])

    def test_the_town_need_not_be_fair(self):
        self.assertEqual(call_off(dry().without(["r3"])), ["r1", "r2", "r4"])
        self.assertEqual(call_off(dry().without(["r3", "r2"])), ["r1", "r4"])
        town = Town([("a", 2, 0), ("b", 2, 0)], [("r1", "a", "b", True), ("r2", "a", "b", True)])
        self.assertEqual(call_off(town), ["r1", "r2"])

    def test_dead_lots(self):
        town = Town([("a", 2, 0), ("b", 2, 0)], RING)
        self.assertEqual(call_off(town), ["r1", "r2"])
        self.assertEqual(call_off(Town([("a", 2, 2), ("b", 2, 2)], RING)), ["r1", "r2"])

    def test_first_by_positions(self):
        town = Town([("a", 2, 0), ("b", 2, 0), ("c", 2, 1)], dry().rides[::-1])
        self.assertEqual(call_off(town), ["r4"])
        rides = [("p", "a", "b", True), ("q", "a", "b", True), ("s", "a", "b", True)]
        self.assertEqual(call_off(Town([("a", 3, 2), ("b", 3, 0)], rides)), ["p"])
        self.assertEqual(call_off(Town([("a", 3, 1), ("b", 3, 0)], rides)), ["p", "q"])

    def test_against_all_lists_and_orders(self):
        lengths = {}
        for town in random_towns(250, 193) + fair_towns(250, 194):
            told = call_off(town)
            self.assertEqual(told, self.by_search(town))
            self.assertEqual(every(town.without(told))[0], "yes")
            lengths[len(told)] = True
        self.assertGreaterEqual(len(lengths), 5)

    def test_8_passes_and_9(self):
        start = time.perf_counter()
        rides = [(f"r{at}", "ab"[at % 2], "ba"[at % 2], True) for at in range(9)]
        self.assertEqual(call_off(Town([("a", 9, 0), ("b", 9, 0)], rides[:8])), [f"r{at}" for at in range(8)])
        self.assertEqual(error_of(call_off, Town([("a", 9, 0), ("b", 9, 0)], rides)), ("TooLarge", 9))
        unkept = [(f"r{at}", "a", "b", False) for at in range(5)]
        self.assertEqual(error_of(call_off, Town([("a", 9, 0), ("b", 9, 0)], unkept)), ("TooLarge", 10))
        self.assertEqual(call_off(Town([("a", 9, 0), ("b", 9, 0)], unkept[:4])), ["r0", "r1", "r2", "r3"])
        self.assertLess(time.perf_counter() - start, SECONDS)


if __name__ == "__main__":
    unittest.main()
