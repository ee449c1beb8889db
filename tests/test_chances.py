"""How many orders leave whom, and how often ([37])."""

import time
import unittest
from fractions import Fraction

from helper import SECONDS, brim, dry, error_of, fair_towns, in_family_order, left_lists, moves, state_of
from ridesonce.chances import chance, mean_left, order_counts
from ridesonce.leftover import LeftFamily
from ridesonce.towns import Town

ALL = (order_counts, chance, mean_left)


def by_all_orders(town):
    """Each list that is left with its number of final orders and its chance, one order after another."""
    found = {}

    def walk(state, share):
        after = moves(town, state)
        if not after:
            names = tuple(ride[0] for ride in state[1])
            count, sure = found.get(names, (0, Fraction(0)))
            found[names] = (count + 1, sure + share)
        for _, one in after:
            walk(one, share / len(after))

    walk(state_of(town), Fraction(1))
    return found


def pair(fraction):
    return (fraction.numerator, fraction.denominator)


class ChancesTest(unittest.TestCase):
    def test_examples(self):
        self.assertEqual(order_counts(dry()), [((), 1), (("r1", "r2"), 1)])
        self.assertEqual((chance(dry()), mean_left(dry())), ((1, 2), (1, 1)))

    def test_the_town_without_stations(self):
        self.assertEqual(order_counts(Town.empty()), [((), 1)])
        self.assertEqual((chance(Town.empty()), mean_left(Town.empty())), ((1, 1), (0, 1)))

    def test_zero(self):
        dead = Town([("a", 2, 0), ("b", 2, 0)], [("r0", "a", "b", True), ("r1", "b", "a", True)])
        self.assertEqual(order_counts(dead), [(("r0", "r1"), 1)])
        self.assertEqual((chance(dead), mean_left(dead)), ((0, 1), (2, 1)))

    def test_one(self):
        town = dry().without(["r4"])
        self.assertEqual(order_counts(town), [((), 1)])
        self.assertEqual((chance(town), mean_left(town)), ((1, 1), (0, 1)))

    def test_orders_are_not_equally_likely(self):
        town = brim().with_bikes("c", 0).with_ride("x", "c", "street")
        town = Town([("a", 1, 1), ("b", 1, 1), ("c", 3, 1)], [*brim().rides, ("x", "c", "street", True)])
        expected = by_all_orders(town)
        self.assertEqual(dict(order_counts(town)), {names: count for names, (count, _) in expected.items()})
        self.assertEqual(chance(town), pair(expected[()][1]))
        self.assertNotEqual(expected[()][1], Fraction(expected[()][0], sum(count for count, _ in expected.values())))

    def test_against_all_orders(self):
        bottoms, most = {}, 0
        for town in fair_towns(500, 131, most_passes=6):
            expected = by_all_orders(town)
            rows = in_family_order(town, left_lists(town))
            self.assertEqual(order_counts(town), [(row, expected[row][0]) for row in rows])
            self.assertEqual([row for row, _ in order_counts(town)], list(LeftFamily(town)))
            self.assertEqual(chance(town), pair(expected.get((), (0, Fraction(0)))[1]))
            mean = sum((len(row) * share for row, (_, share) in expected.items()), Fraction(0))
            self.assertEqual(mean_left(town), pair(mean))
            bottoms[chance(town)[1]] = True
            most = max(most, len(rows))
        self.assertGreater(len(bottoms), 5)
        self.assertGreater(most, 3)

    def test_8_passes(self):
        start = time.perf_counter()
        for kept in (True, False):
            town = Town([("a", 999999, 9), ("b", 999999, 9), ("c", 9, 0)],
                        [(f"r{at}", "a", "b", kept) for at in range(8 if kept else 4)])
            self.assertEqual(order_counts(town), [((), 40320 if kept else 2520)])
            self.assertEqual((chance(town), mean_left(town)), ((1, 1), (0, 1)))
        self.assertLess(time.perf_counter() - start, SECONDS)

    def test_two_towns_side_by_side(self):
        # The orders of two parts that do not touch are mixed in every way: 4 + 4 steps, or 4 + 2, or 2 + 2.
        first = Town([("a", 2, 0), ("b", 2, 0), ("c", 2, 1), ("d", 2, 0), ("e", 2, 0), ("f", 2, 1)],
                     [*dry().rides, ("s1", "d", "e", True), ("s2", "e", "d", True), ("s3", "f", "d", True),
                      ("s4", "d", "f", True)])
        expected = [((), 70), (("r1", "r2"), 15), (("s1", "s2"), 15), (("r1", "r2", "s1", "s2"), 6)]
        self.assertEqual(order_counts(first), expected)
        self.assertEqual(mean_left(first), (2, 1))
        self.assertEqual(chance(first), (1, 4))

    def test_sums(self):
        for town in fair_towns(80, 132):
            top, bottom = chance(town)
            self.assertTrue(0 <= top <= bottom and bottom >= 1)
            self.assertEqual(top == 0, () not in LeftFamily(town))
            self.assertEqual(top == bottom, list(LeftFamily(town)) == [()])
            top, bottom = mean_left(town)
            self.assertTrue(0 <= top and bottom >= 1)
            self.assertEqual(top == 0, list(LeftFamily(town)) == [()])

    def test_kinds_of_values(self):
        self.assertIs(type(order_counts(dry())), list)
        for row in order_counts(dry()) + [chance(dry()), mean_left(dry())]:
            self.assertIs(type(row), tuple)
        self.assertIs(type(order_counts(dry())[1][0]), tuple)
        for number in (*chance(dry()), *mean_left(dry())):
            self.assertIs(type(number), int)


class ErrorsTest(unittest.TestCase):
    def test_unfair_then_too_large(self):
        rides = [(f"r{at}", "a", "b", True) for at in range(9)]
        for call in ALL:
            self.assertEqual(error_of(call, dry().without(["r3"])), ("NotFair", "a", -1))
            self.assertEqual(error_of(call, Town([("a", 20, 1), ("b", 20, 0)], rides)), ("NotFair", "a", -8))
            self.assertEqual(error_of(call, Town([("a", 20, 9), ("b", 20, 0)], rides)), ("TooLarge", 9))
            self.assertIsNone(error_of(call, Town([("a", 20, 9), ("b", 20, 0)], rides[:8])))


if __name__ == "__main__":
    unittest.main()
