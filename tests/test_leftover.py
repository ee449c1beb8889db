"""The lists of rides that can be left ([33], [34])."""

import itertools
import unittest

from helper import (brim, dry, end_numbers, error_of, fair_towns, has_complete, in_family_order, inside, left_lists,
                    lists_out_of, names_of)
from ridesonce.leftover import LeftFamily
from ridesonce.lots import dead_lots
from ridesonce.towns import Town


def both_kinds():
    """Two empty rings and a full one, with many lists of two and of four rides that can be left."""
    stations = [("f", 1, 1), ("g", 2, 2), ("e", 2, 0), ("h", 2, 0), ("i", 2, 1)]
    rides = [("r0", "f", "g", True), ("r1", "g", "f", True), ("r2", "g", "i", True), ("r3", "e", "h", True),
             ("r4", "h", "e", True), ("r5", "i", "e", True), ("r6", "e", "i", True), ("r7", "i", "g", True)]
    return Town(stations, rides)


def same_ends():
    """Two rides there and two back, all of which can be left in any pairs."""
    rides = [("p", "b", "a", True), ("q", "a", "b", True), ("r", "a", "b", False), ("s", "b", "a", True)]
    return Town([("a", 4, 0), ("b", 4, 0), ("c", 4, 1)], [*rides, ("in", "c", "a", True), ("out", "a", "c", True)])


class LeftFamilyTest(unittest.TestCase):
    def test_examples(self):
        self.assertEqual(list(LeftFamily(dry())), [(), ("r1", "r2")])
        self.assertEqual(list(LeftFamily(brim())), [(), ("r1", "r2")])
        self.assertEqual(list(LeftFamily(Town.empty())), [()])
        self.assertEqual(list(LeftFamily(dry().without(["r4"]))), [()])

    def test_fewer_rides_come_first_then_positions(self):
        expected = [(), ("r0", "r1"), ("r3", "r4"), ("r0", "r1", "r3", "r4")]
        self.assertEqual(list(LeftFamily(both_kinds())), expected)
        expected = [(), ("p", "q"), ("p", "r"), ("q", "s"), ("r", "s"), ("p", "q", "r", "s")]
        self.assertEqual(list(LeftFamily(same_ends())), expected)

    def test_town_order_is_not_that_of_the_alphabet(self):
        names = {"p": "z", "q": "b", "r": "y", "s": "a"}
        town = Town(same_ends().stations, [(names.get(ride[0], ride[0]), *ride[1:]) for ride in same_ends().rides])
        family = LeftFamily(town)
        self.assertEqual(list(family), [(), ("z", "b"), ("z", "y"), ("b", "a"), ("y", "a"), ("z", "b", "y", "a")])
        self.assertEqual([family.rank(list(row)) for row in family], list(range(6)))
        self.assertEqual([family.rank(sorted(row)) for row in family], list(range(6)))
        self.assertTrue(["a", "b"] in family and ["b", "a"] in family)
        self.assertFalse(["b", "y"] in family)

    def test_the_empty_list_is_not_always_there(self):
        dead = Town([("a", 2, 0), ("b", 2, 0)], [("r0", "a", "b", True), ("r1", "b", "a", True)])
        self.assertEqual(list(LeftFamily(dead)), [("r0", "r1")])
        # All of these stations are empty, so nobody ever goes; a dead lot is left whole.
        dead = dead.with_ride("r2", "a", "b", kept=False).with_ride("r3", "b", "a")
        self.assertEqual(list(LeftFamily(dead)), [("r0", "r1", "r2", "r3")])

    def test_against_all_orders(self):
        longest = 0
        for town in fair_towns(600, 111):
            expected = in_family_order(town, left_lists(town))
            self.assertEqual(list(LeftFamily(town)), expected)
            self.assertEqual(() in expected, has_complete(town))
            longest = max(longest, len(expected))
        self.assertGreater(longest, 4)

    def test_the_three_properties(self):
        for town in fair_towns(200, 112):
            good = []
            rides = {ride[0]: ride for kind in ("empty", "full") for ride in inside(town, kind)}
            for names in lists_out_of([name for name in names_of(town) if name in rides]):
                level = all(sum(rides[name][1] == place for name in names) == sum(rides[name][2] == place
                                                                                  for name in names)
                            for place in end_numbers(town))
                if level and not dead_lots(town.without(names)):
                    good.append(tuple(names))
            self.assertEqual(list(LeftFamily(town)), good)

    def test_tuples(self):
        for row in LeftFamily(same_ends()):
            self.assertIs(type(row), tuple)

    def test_iterating_twice_and_nested(self):
        family = LeftFamily(same_ends())
        self.assertEqual(list(family), list(family))
        self.assertEqual(len([1 for _ in family for _ in family]), 36)
        rows = iter(family)
        self.assertEqual((next(rows), next(rows)), ((), ("p", "q")))


class MethodsTest(unittest.TestCase):
    def setUp(self):
        self.family = LeftFamily(same_ends())

    def test_each_stands_in_the_class(self):
        names = {"__init__", "__len__", "__getitem__", "__iter__", "__contains__", "rank", "holding"}
        self.assertLessEqual(names, set(vars(LeftFamily)))

    def test_len(self):
        self.assertEqual(len(self.family), 6)
        self.assertEqual(len(LeftFamily(Town.empty())), 1)

    def test_getitem(self):
        self.assertEqual([self.family[at] for at in range(6)], list(self.family))
        self.assertEqual(self.family[5], ("p", "q", "r", "s"))

    def test_getitem_outside(self):
        for index in (-1, -6, -7, 6, 7, 10 ** 9, -10 ** 9):
            self.assertEqual(error_of(self.family.__getitem__, index), ("NoSuchRow", index))
        self.assertEqual(error_of(LeftFamily(Town.empty()).__getitem__, 1), ("NoSuchRow", 1))

    def test_contains_in_any_order(self):
        for row in self.family:
            for names in itertools.permutations(row):
                self.assertIs(list(names) in self.family, True)
        self.assertIs([] in self.family, True)
        self.assertIs([] in LeftFamily(Town([("a", 2, 0), ("b", 2, 0)], [("r0", "a", "b", True), ("r1", "b", "a", True)])),
                      False)

    def test_contains_nothing_else(self):
        for names in (["p"], ["p", "s"], ["q", "r"], ["p", "q", "r"], ["x"], ["p", "q", "x"], ["p", "q", "in"],
                      ["in", "out"], ["a"], ["p", "p"], ["p", "q", "q"], ["p", "p", "q"], ["", "p"], ["pq"]):
            self.assertIs(names in self.family, False, names)
            self.assertEqual(error_of(self.family.rank, names), ("NotLeft",))

    def test_every_list_of_names(self):
        town = same_ends()
        rows = list(self.family)
        for names in lists_out_of(names_of(town)):
            self.assertIs(names[::-1] in self.family, tuple(names) in rows)

    def test_rank(self):
        for at, row in enumerate(self.family):
            for names in itertools.permutations(row):
                self.assertEqual(self.family.rank(list(names)), at)
        self.assertEqual(LeftFamily(Town.empty()).rank([]), 0)

    def test_holding(self):
        self.assertEqual([self.family.holding(name) for name in names_of(same_ends())], [3, 3, 3, 3, 0, 0])
        family = LeftFamily(both_kinds())
        self.assertEqual([family.holding(name) for name in names_of(both_kinds())], [2, 2, 0, 2, 2, 0, 0, 0])

    def test_holding_of_an_unknown_ride(self):
        for name in ("x", "a", "street", ""):
            self.assertEqual(error_of(self.family.holding, name), ("UnknownRide", name))
        self.assertEqual(error_of(LeftFamily(Town.empty()).holding, "p"), ("UnknownRide", "p"))

    def test_holding_adds_up(self):
        for town in fair_towns(100, 113):
            family = LeftFamily(town)
            self.assertEqual(sum(family.holding(name) for name in names_of(town)), sum(len(row) for row in family))

    def test_arguments_stay(self):
        names = ["s", "q"]
        self.assertEqual((names in self.family, self.family.rank(names)), (True, 3))
        self.assertEqual(names, ["s", "q"])


class ErrorsTest(unittest.TestCase):
    def test_unfair_then_too_large(self):
        self.assertEqual(error_of(LeftFamily, dry().without(["r3"])), ("NotFair", "a", -1))
        rides = [(f"r{at}", "a", "b", True) for at in range(9)]
        self.assertEqual(error_of(LeftFamily, Town([("a", 20, 1), ("b", 20, 0)], rides)), ("NotFair", "a", -8))
        self.assertEqual(error_of(LeftFamily, Town([("a", 20, 9), ("b", 20, 0)], rides)), ("TooLarge", 9))
        self.assertEqual(list(LeftFamily(Town([("a", 20, 9), ("b", 20, 0)], rides[:8]))), [()])

    def test_unkept_rides_count_twice(self):
        rides = [(f"r{at}", "a", "b", False) for at in range(4)]
        self.assertEqual(len(LeftFamily(Town([("a", 20, 9), ("b", 20, 0)], rides))), 1)
        rides.append(("x", "a", "b", True))
        self.assertEqual(error_of(LeftFamily, Town([("a", 20, 9), ("b", 20, 0)], rides)), ("TooLarge", 9))

    def test_8_rides_in_rings(self):
        rides = [(f"r{at}", "ab"[at // 4], "ba"[at // 4], True) for at in range(8)]
        town = Town([("a", 20, 0), ("b", 20, 0)], rides)
        self.assertEqual(list(LeftFamily(town)), [tuple(names_of(town))])
        full = Town([("a", 20, 20), ("b", 20, 20)], rides)
        self.assertEqual(list(LeftFamily(full)), [tuple(names_of(town))])


if __name__ == "__main__":
    unittest.main()
