"""Standings that can come, and who is always done before whom ([28] to [31])."""

import itertools
import unittest

from helper import (brim, dry, end_numbers, error_of, fair_towns, has_complete, large_town, lists_out_of, moves,
                    names_of, random_towns, reached_standings, rows, standing_of, state_after, state_of)
from ridesonce.ends import ends
from ridesonce.lots import dead_lots
from ridesonce.standings import before_pairs, can_come, can_stand, count_standings, standings, town_after
from ridesonce.steps import run
from ridesonce.towns import Town


def pairs_town():
    """8 passes that never hinder one another."""
    return Town([("a", 9, 4), ("b", 9, 4)],
                [("r0", "a", "b", True), ("r1", "b", "a", False), ("r2", "street", "a", True), ("r3", "a", "b", False),
                 ("r4", "b", "street", True), ("r5", "b", "a", True)])


def all_standings(town):
    """Every pair of lists that could be a standing, whether it can come or not."""
    for done in lists_out_of(names_of(town)):
        for road in lists_out_of([ride[0] for ride in town.rides if not ride[3] and ride[0] not in done]):
            yield done, road


def town_of(town, done, road):
    """The town of a standing, told word by word."""
    rides = []
    for name, start, goal, kept in town.rides:
        if name in done:
            rides.append((name, start, goal, kept))
        if name in road:
            rides.append((name, start, "street", True))
    return Town(list(town.stations), rides)


class CanStandTest(unittest.TestCase):
    def check_order(self, town, done, road, order):
        state = state_after(town, order)
        self.assertIsNotNone(state)
        self.assertEqual(standing_of(town, state), ([name for name in names_of(town) if name in done],
                                                    [name for name in names_of(town) if name in road]))

    def test_examples(self):
        self.assertEqual(can_stand(dry(), ["r1", "r2"], []), ("no", "empty", ["r1", "r2"]))
        self.assertEqual(can_stand(dry(), ["r4"], []), ("no", "docks", "a", -1))
        self.assertEqual(can_stand(dry(), ["r1", "r3"], []), ("yes", ["r3", "r1"]))
        self.assertEqual(can_stand(dry(), [], []), ("yes", []))
        self.assertEqual(can_stand(Town.empty(), [], []), ("yes", []))

    def test_docks_above(self):
        self.assertEqual(can_stand(brim(), ["r1"], []), ("no", "docks", "b", 2))
        self.assertEqual(can_stand(brim(), ["r2", "r4"], []), ("no", "docks", "a", 3))

    def test_the_first_station_in_town_order(self):
        town = Town([("b", 1, 0), ("a", 1, 0)], [("r0", "a", "b", True), ("r1", "a", "b", True)])
        self.assertEqual(can_stand(town, ["r0", "r1"], []), ("no", "docks", "b", 2))
        self.assertEqual(can_stand(town, ["r0"], []), ("no", "docks", "a", -1))

    def test_numbers_come_before_dead_lots(self):
        town = Town([("a", 2, 0), ("b", 2, 0), ("c", 2, 0)], [*dry().rides[:2], ("r3", "c", "a", True)])
        self.assertEqual(can_stand(town, ["r1", "r2", "r3"], []), ("no", "docks", "c", -1))

    def test_riders_on_the_road(self):
        town = Town([("a", 1, 1), ("b", 1, 1)], [("r", "a", "b", False), ("q", "b", "a", True)])
        self.assertEqual(can_stand(town, [], ["r"]), ("yes", ["r"]))
        self.assertEqual(can_stand(town, ["q"], ["r"]), ("yes", ["r", "q"]))
        self.assertEqual(can_stand(town, ["q", "r"], []), ("yes", ["r", "q", "r"]))
        self.assertEqual(can_stand(town, ["q"], []), ("no", "docks", "a", 2))
        self.assertEqual(can_stand(town, ["r"], []), ("no", "docks", "b", 2))

    def test_a_rider_on_the_road_frees_a_dead_lot(self):
        # p and q are full for each other; with s on the road a dock is free.
        town = Town([("a", 1, 1), ("b", 1, 1)],
                    [("p", "a", "b", True), ("q", "b", "a", True), ("s", "a", "b", False)])
        self.assertEqual(can_stand(town, ["p", "q"], []), ("no", "full", ["p", "q"]))
        word, order = can_stand(town, ["q"], ["s"])
        self.assertEqual(word, "yes")
        self.check_order(town, ["q"], ["s"], order)

    def test_rides_of_the_street(self):
        town = Town([("a", 1, 0)], [("in", "street", "a", True), ("out", "a", "street", True)])
        self.assertEqual(can_stand(town, ["in", "out"], []), ("yes", ["in", "out"]))
        self.assertEqual(can_stand(town, ["out"], []), ("no", "docks", "a", -1))
        self.assertEqual(can_stand(town, ["in"], []), ("yes", ["in"]))

    def test_the_town_need_not_be_fair(self):
        town = dry().without(["r3"])
        self.assertEqual(can_stand(town, [], []), ("yes", []))
        self.assertEqual(can_stand(town, ["r1", "r2", "r4"], []), ("no", "docks", "a", -1))

    def test_names_in_any_order(self):
        self.assertEqual(can_stand(dry(), ["r4", "r3", "r2", "r1"], [])[0], "yes")
        self.assertEqual(can_stand(dry(), ["r2", "r1"], []), ("no", "empty", ["r1", "r2"]))

    def test_against_all_orders(self):
        words = {}
        for town in random_towns(120, 91) + fair_towns(120, 92):
            reached = [(done, road) for done, road, _ in reached_standings(town)]
            for done, road in all_standings(town):
                told = can_stand(town, done, road)
                words[told[:2] if told[0] == "no" else "yes"] = True
                self.assertEqual(told[0] == "yes", (done, road) in reached)
                self.assertIs(can_come(town, done, road), told[0] == "yes")
                moved = town_of(town, done, road)
                numbers = end_numbers(moved)
                bad = [(name, numbers[name]) for name, docks, _ in town.stations if not 0 <= numbers[name] <= docks]
                if told[0] == "yes":
                    self.check_order(town, done, road, told[1])
                elif bad:
                    self.assertEqual(told, ("no", "docks", *bad[0]))
                else:
                    self.assertEqual(told, ("no", *dead_lots(moved)[0]))
        self.assertEqual(len(words), 4)

    def test_12_stations_and_24_rides(self):
        town = large_town()
        names = names_of(town)
        word, order = can_stand(town, names, [])
        self.assertEqual(word, "yes")
        self.check_order(town, names, [], order)
        unkept = [name for name in names if not town.ride(name)[3]]
        self.assertEqual(len(unkept), 10)
        self.assertEqual(can_stand(town, [], unkept), ("no", "docks", "empty0", -3))
        done = [name for name in names if name[:2] in ("in", "ou") and name not in unkept]
        road = [name for name in unkept if name[:2] in ("in", "ou")]
        self.assertEqual((len(done), len(road)), (4, 4))
        word, *rest = can_stand(town, done + ["x0"], ["in1", "in3"])
        self.assertEqual((word, rest), ("no", ["docks", "empty1", -1]))
        word, order = can_stand(town, [name for name in done if name[:2] == "in"] + ["x0", "y1"], ["in1", "in3"])
        self.assertEqual(word, "yes")
        self.check_order(town, ["in0", "in2", "x0", "y1"], ["in1", "in3"], order)


class CanStandErrorsTest(unittest.TestCase):
    def setUp(self):
        self.town = Town([("a", 3, 2), ("b", 3, 2)],
                         [("k", "a", "b", True), ("u", "a", "b", False), ("v", "b", "a", False)])

    def test_unknown_rides(self):
        self.assertEqual(error_of(can_stand, self.town, ["k", "x", "y"], []), ("UnknownRide", "x"))
        self.assertEqual(error_of(can_stand, self.town, [], ["u", "y", "x"]), ("UnknownRide", "y"))
        self.assertEqual(error_of(can_stand, Town.empty(), ["a"], ["b"]), ("UnknownRide", "a"))
        self.assertEqual(error_of(can_stand, self.town, ["street"], []), ("UnknownRide", "street"))

    def test_done_comes_before_road(self):
        self.assertEqual(error_of(can_stand, self.town, ["x"], ["k"]), ("UnknownRide", "x"))
        self.assertEqual(error_of(can_stand, self.town, ["u", "x"], ["u"]), ("UnknownRide", "x"))

    def test_bad_standings(self):
        self.assertEqual(error_of(can_stand, self.town, [], ["k"]), ("BadStanding", "k"))
        self.assertEqual(error_of(can_stand, self.town, ["u"], ["u"]), ("BadStanding", "u"))
        self.assertEqual(error_of(can_stand, self.town, ["u", "v"], ["v", "u"]), ("BadStanding", "v"))
        self.assertEqual(error_of(can_stand, self.town, ["k"], ["k"]), ("BadStanding", "k"))

    def test_the_road_is_looked_at_from_the_front(self):
        self.assertEqual(error_of(can_stand, self.town, ["u"], ["v", "x", "u"]), ("UnknownRide", "x"))
        self.assertEqual(error_of(can_stand, self.town, ["u"], ["v", "u", "x"]), ("BadStanding", "u"))
        self.assertEqual(error_of(can_stand, self.town, [], ["k", "x"]), ("BadStanding", "k"))
        self.assertEqual(error_of(can_stand, self.town, [], ["x", "k"]), ("UnknownRide", "x"))

    def test_a_rider_who_is_on_the_road_already_has_a_kept_ride(self):
        town = run(self.town, ["u"])
        self.assertEqual(error_of(can_stand, town, [], ["u"]), ("BadStanding", "u"))
        self.assertEqual(can_stand(town, ["u"], []), ("yes", ["u"]))


class StandingsTest(unittest.TestCase):
    def test_example(self):
        expected = [([], []), (["r3"], []), (["r1", "r3"], []), (["r3", "r4"], []), (["r1", "r2", "r3"], []),
                    (["r1", "r2", "r3", "r4"], [])]
        self.assertEqual(list(standings(dry())), expected)
        self.assertEqual(count_standings(dry()), 6)
        self.assertEqual(list(standings(Town.empty())), [([], [])])
        self.assertEqual(count_standings(Town.empty()), 1)

    def test_order(self):
        town = Town([("a", 5, 2), ("b", 5, 2)], [("u", "a", "b", False), ("k", "a", "b", True)])
        expected = [([], []), ([], ["u"]), (["k"], []), (["u"], []), (["k"], ["u"]), (["u", "k"], [])]
        self.assertEqual(list(standings(town)), expected)

    def test_equal_steps_and_equal_riders_done(self):
        town = Town([("a", 5, 3), ("b", 5, 3)], [(name, "a", "b", False) for name in ("w", "v", "u")])
        expected = [([], []), ([], ["w"]), ([], ["v"]), ([], ["u"]), ([], ["w", "v"]), ([], ["w", "u"]),
                    ([], ["v", "u"]), (["w"], []), (["v"], []), (["u"], []), ([], ["w", "v", "u"]),
                    (["w"], ["v"]), (["w"], ["u"]), (["v"], ["w"]), (["v"], ["u"]), (["u"], ["w"]), (["u"], ["v"])]
        self.assertEqual(list(standings(town))[:17], expected)

    def test_against_all_orders(self):
        for town in random_towns(300, 93) + fair_towns(300, 94) + [pairs_town()]:
            expected = [(done, road) for done, road, _ in reached_standings(town)]
            self.assertEqual(list(standings(town)), expected)
            self.assertEqual(count_standings(town), len(expected))

    def test_the_town_need_not_be_fair(self):
        town = dry().without(["r3"])
        self.assertEqual(list(standings(town)), [([], [])])

    def test_256_standings(self):
        town = Town([(f"s{at}", 999999, 8) for at in range(12)],
                    [(f"r{at}", f"s{at}", f"s{at + 1}", True) for at in range(8)])
        self.assertEqual(count_standings(town), 256)
        self.assertEqual(len(list(standings(town))), 256)
        nine = town.with_ride("r8", "s0", "street")
        self.assertEqual(error_of(list, standings(nine)), ("TooLarge", 9))
        self.assertEqual(error_of(count_standings, nine), ("TooLarge", 9))

    def test_unkept_rides_count_twice(self):
        town = Town([("a", 9, 4), ("b", 9, 4)], [(f"r{at}", "a", "b", False) for at in range(4)])
        self.assertEqual(count_standings(town), 81)
        self.assertEqual(error_of(count_standings, town.with_ride("x", "a", "b")), ("TooLarge", 9))
        self.assertEqual(error_of(count_standings, town.with_ride("x", "a", "b", kept=False)), ("TooLarge", 10))

    def test_errors_come_when_it_is_iterated(self):
        told = standings(large_town())
        self.assertIs(iter(told), told)
        self.assertEqual(error_of(next, told), ("TooLarge", large_town().passes()))

    def test_changing_what_was_yielded(self):
        seen = []
        for done, road in standings(pairs_town()):
            seen.append((list(done), list(road)))
            done.append("x")
            road.clear()
        self.assertEqual(seen, list(standings(pairs_town())))


class TownAfterTest(unittest.TestCase):
    def test_is_the_town_that_the_order_leads_to(self):
        for town in random_towns(150, 95) + [pairs_town()]:
            for done, road, order in reached_standings(town):
                self.assertEqual(rows(town_after(town, done, road)), rows(run(town, order)))
                self.assertEqual(ends(town_after(town, done, road)), ends(town))


class BeforePairsTest(unittest.TestCase):
    def pairs(self, town):
        """The pairs out of all complete orders, by going through the states from which one can be completed."""
        good = {}

        def is_good(state):
            if state not in good:
                after = [is_good(one) for _, one in moves(town, state)]
                good[state] = any(after) or not state[1]
            return good[state]

        is_good(state_of(town))
        broken = set()
        for state, fine in good.items():
            if fine:
                done = standing_of(town, state)[0]
                broken |= {(first, second) for second in done for first in names_of(town) if first not in done}
        return [pair for pair in itertools.permutations(names_of(town), 2) if pair not in broken]

    def test_example(self):
        expected = [("r1", "r2"), ("r1", "r4"), ("r2", "r4"), ("r3", "r1"), ("r3", "r2"), ("r3", "r4")]
        self.assertEqual(before_pairs(dry()), expected)
        self.assertEqual(before_pairs(Town.empty()), [])
        self.assertEqual(before_pairs(pairs_town()), [])

    def test_done_not_gone_counts(self):
        # u goes first but is done last: its dock becomes free when q goes.
        town = Town([("a", 1, 1), ("b", 1, 1)], [("u", "a", "b", False), ("q", "b", "a", True)])
        self.assertEqual(before_pairs(town), [("q", "u")])

    def test_against_all_orders(self):
        found = 0
        for town in fair_towns(400, 96):
            if has_complete(town):
                self.assertEqual(before_pairs(town), self.pairs(town))
                found += len(before_pairs(town))
            else:
                self.assertEqual(error_of(before_pairs, town), ("NoOrder",))
        self.assertGreater(found, 100)

    def test_errors_in_their_order(self):
        dead = Town([("a", 2, 0), ("b", 2, 0)], [("r0", "a", "b", True), ("r1", "b", "a", True)])
        self.assertEqual(error_of(before_pairs, dead), ("NoOrder",))
        more = [(f"q{at}", "street", "c", True) for at in range(7)]
        large = Town([*dead.stations, ("c", 9, 1)], [*dead.rides, *more])
        self.assertEqual(error_of(before_pairs, large), ("TooLarge", 9))
        small = large.without(["q0"])
        self.assertEqual(error_of(before_pairs, small), ("NoOrder",))
        unfair = large.with_bikes("c", 3)
        self.assertEqual(error_of(before_pairs, unfair), ("NotFair", "c", 10))
        self.assertEqual(error_of(before_pairs, dead.without(["r0"])), ("NotFair", "b", -1))

    def test_8_passes(self):
        self.assertEqual(pairs_town().passes(), 8)
        self.assertEqual(error_of(before_pairs, pairs_town().with_ride("x", "a", "b")), ("TooLarge", 9))


if __name__ == "__main__":
    unittest.main()
