"""The cheapest mends, and the trees that show it ([44] to [46])."""

import copy
import itertools
import random
import time
import unittest

from helper import (SECONDS, brim, dry, error_of, fair_towns, inside, is_ring, left_lists, names_of, ring_towns,
                    rings_of_sorts, rows)
from ridesonce.cheapest import cheapest_mends, judge_mends
from ridesonce.mends import mended
from ridesonce.towns import Town
from test_mends import breaks, mends_of


def all_rings(town):
    """All bad rings, each beginning with its first ride."""
    return [(kind, ring) for kind in ("empty", "full") for ring in rings_of_sorts(inside(town, kind), False)]


def brute_price(town, prices):
    """The least sum of prices of mends that break all bad rings, out of all lists of mends; None if none does."""
    rings = all_rings(town)
    masks = {mend: sum(1 << at for at, row in enumerate(rings) if breaks(town, mend, *row)) for mend in prices}
    best = {0: 0}
    for mend, price in prices.items():
        for mask, total in list(best.items()):
            joined = mask | masks[mend]
            best[joined] = min(best.get(joined, 10 ** 9), total + price)
    return best.get((1 << len(rings)) - 1)


def is_tree(town, prices, kind, goal, tree, way):
    """What the document says of a tree, word by word."""
    total = sum(prices[mend] for mend in way)
    if total >= goal:
        return tree == ("price", total)
    if len(tree) != 3 or tree[0] != "ring" or not is_ring(town, kind, tree[1]):
        return False
    if any(breaks(town, mend, kind, tree[1]) for mend in way):
        return False
    needed = sorted(mend for mend in prices if breaks(town, mend, kind, tree[1]))
    if sorted(mend for mend, _ in tree[2]) != needed:
        return False
    return all(is_tree(town, prices, kind, goal, branch, way + [mend]) for mend, branch in tree[2])


def accepts(town, prices, answer):
    """What the document says of judge_mends, word by word."""
    _, price, mends, low, high = answer
    if any(mend not in prices for mend in mends) or len(set(mends)) != len(mends):
        return False
    if any(not any(breaks(town, mend, *row) for mend in mends) for row in all_rings(town)):
        return False
    reserves = sum(prices[mend] for mend in mends if mend[0] == "reserve")
    others = sum(prices[mend] for mend in mends if mend[0] != "reserve")
    if price != reserves + others:
        return False
    return is_tree(town, prices, "empty", reserves, low, []) and is_tree(town, prices, "full", others, high, [])


def depth(tree):
    return 1 if tree[0] == "price" else 1 + max([0] + [depth(branch) for _, branch in tree[2]])


def both_kinds():
    """Two empty rings that share a station and two full rings that share a ride."""
    stations = [("f", 1, 1), ("g", 2, 2), ("h", 2, 2), ("a", 2, 0), ("b", 2, 0), ("c", 2, 0)]
    rides = [("p", "f", "g", True), ("q", "g", "f", True), ("s", "g", "f", True), ("t", "f", "g", False),
             ("r1", "a", "b", True), ("r2", "b", "a", False), ("r3", "b", "c", True)]
    return Town(stations[:2] + stations[3:], rides[:3] + rides[4:])


def shared():
    """Rings of both kinds, four of each at most, with 8 passes."""
    stations = [("a", 2, 0), ("b", 2, 0), ("c", 2, 0), ("f", 1, 1), ("g", 1, 1)]
    rides = [("r1", "a", "b", True), ("r2", "b", "a", True), ("r3", "b", "c", True), ("r4", "c", "b", True),
             ("p", "f", "g", True), ("q", "g", "f", True), ("s", "f", "g", True), ("t", "g", "f", True)]
    return Town(stations, rides)


def all_prices(town, price=1):
    return {mend: price for mend in mends_of(town)}


class CheapestTest(unittest.TestCase):
    def check(self, town, prices):
        told = cheapest_mends(town, prices)
        rings = all_rings(town)
        unbroken = [row for row in rings if not any(breaks(town, mend, *row) for mend in prices)]
        self.assertEqual(told[0], "no" if unbroken else "yes")
        if told[0] == "no":
            self.assertEqual(len(told), 3)
            first = min(told[2], key=names_of(town).index)
            at = told[2].index(first)
            self.assertIn((told[1], told[2][at:] + told[2][:at]), unbroken)
            return told
        _, price, mends, low, high = told
        self.assertEqual(price, brute_price(town, prices))
        self.assertTrue(accepts(town, prices, told), told)
        self.assertIs(judge_mends(town, prices, told), True)
        self.assertLessEqual(max(depth(low), depth(high)), 12)
        self.assertEqual(all_rings(mended(town, mends)), [])
        return told

    def test_examples(self):
        self.assertEqual(cheapest_mends(dry(), {("spare", "a"): 1}), ("no", "empty", ["r1", "r2"]))
        told = self.check(dry(), {("reserve", "a"): 3, ("reserve", "b"): 2})
        self.assertEqual(told[:3], ("yes", 2, [("reserve", "b")]))
        self.assertEqual(told[4], ("price", 0))
        word, ring, branches = told[3]
        self.assertEqual((word, sorted(ring)), ("ring", ["r1", "r2"]))
        self.assertEqual(sorted(branches), [(("reserve", "a"), ("price", 3)), (("reserve", "b"), ("price", 2))])

    def test_no_rings(self):
        leaf = ("price", 0)
        self.assertEqual(cheapest_mends(Town.empty(), {}), ("yes", 0, [], leaf, leaf))
        town = dry().without(["r4"])
        for prices in ({}, all_prices(town), all_prices(town, 0)):
            told = self.check(town, prices)
            self.assertEqual((told[1], told[3:]), (0, (leaf, leaf)))

    def test_no_allowed_mends(self):
        self.assertEqual(self.check(dry(), {})[:2], ("no", "empty"))
        self.assertEqual(self.check(brim(), {})[:2], ("no", "full"))
        prices = {("reserve", "a"): 1, ("reserve", "b"): 1, ("reserve", "c"): 1, ("unkept", "r3"): 0}
        self.assertEqual(self.check(brim(), prices)[:2], ("no", "full"))
        prices = {("spare", "a"): 1, ("spare", "b"): 1, ("unkept", "r1"): 1, ("unkept", "r2"): 1, ("reserve", "c"): 0}
        self.assertEqual(self.check(dry(), prices)[:2], ("no", "empty"))

    def test_one_ring_of_several_that_no_mend_breaks(self):
        prices = {mend: 1 for mend in mends_of(shared()) if mend[1] not in ("c", "b", "r3", "r4")}
        self.assertEqual(self.check(shared(), prices)[:2], ("no", "empty"))
        prices = {("reserve", "b"): 1, ("unkept", "p"): 1, ("unkept", "q"): 1}
        told = self.check(shared(), prices)
        self.assertEqual((told[:2], sorted(told[2])), (("no", "full"), ["s", "t"]))

    def test_mends_that_several_rings_share(self):
        told = self.check(shared(), {**all_prices(shared(), 5), ("reserve", "b"): 9, ("spare", "f"): 11})
        self.assertEqual((told[1], sorted(told[2])), (14, [("reserve", "b"), ("spare", "g")]))
        told = self.check(shared(), {**all_prices(shared(), 5), ("reserve", "b"): 11, ("spare", "f"): 11,
                                     ("spare", "g"): 11})
        self.assertEqual(told[1], 20)
        self.assertEqual(sorted(told[2])[:2], [("reserve", "a"), ("reserve", "c")])

    def test_prices_of_0(self):
        told = self.check(shared(), all_prices(shared(), 0))
        self.assertEqual((told[1], told[3:]), (0, (("price", 0), ("price", 0))))
        prices = {**all_prices(shared(), 9999), ("reserve", "a"): 0, ("reserve", "c"): 0, ("unkept", "p"): 0}
        told = self.check(shared(), prices)
        self.assertEqual((told[1], told[3]), (9999, ("price", 0)))
        prices = {**all_prices(shared(), 0), ("reserve", "a"): 7, ("reserve", "b"): 8}
        self.assertEqual(self.check(shared(), prices)[1], 7)

    def test_greatest_prices(self):
        self.assertEqual(self.check(shared(), all_prices(shared(), 9999))[1], 2 * 9999)

    def test_prices_in_any_order(self):
        chance = random.Random(181)
        prices = {mend: chance.randint(0, 9) for mend in mends_of(shared())}
        price = cheapest_mends(shared(), prices)[1]
        for _ in range(5):
            mends = list(prices)
            chance.shuffle(mends)
            self.assertEqual(self.check(shared(), {mend: prices[mend] for mend in mends})[1], price)

    def test_against_all_lists_of_mends(self):
        words = {}
        chance = random.Random(180)
        for town in fair_towns(500, 182):
            for share in (1, 0.8, 0.5):
                prices = {mend: chance.choice([0, 1, 2, 3, 5, 9999]) for mend in mends_of(town)
                          if chance.random() < share}
                told = self.check(town, prices)
                words[told[:2]] = True
        self.assertGreater(len(words), 7)
        self.assertTrue({("no", "empty"), ("no", "full"), ("yes", 0), ("yes", 9999)} <= set(words))

    def test_towns_of_many_rings(self):
        chance = random.Random(186)
        found = {}
        for town in ring_towns(250, 187):
            for share in (1, 0.8):
                prices = {mend: chance.choice([0, 1, 1, 2, 3]) for mend in mends_of(town) if chance.random() < share}
                found[self.check(town, prices)[1]] = True
        self.assertGreater(len(found), 6)

    def test_every_final_order_of_the_mended_town_is_complete(self):
        tried = 0
        for town in fair_towns(400, 183, most_passes=6):
            if all_rings(town):
                told = cheapest_mends(town, all_prices(town))
                after = mended(town, told[2])
                if after.passes() <= 8:
                    self.assertEqual(left_lists(after), [()])
                    tried += 1
        self.assertGreater(tried, 40)

    def test_the_lists_of_an_answer_are_new(self):
        town, prices = shared(), all_prices(shared())
        told = cheapest_mends(town, prices)
        kept = copy.deepcopy(told)
        told[2].clear()
        told[3][1].append("x")
        told[3][2].clear()
        told[4][2].reverse()
        self.assertEqual(cheapest_mends(town, prices), kept)
        self.assertEqual((prices, rows(town)), (all_prices(shared()), rows(shared())))

    def test_8_passes_in_many_rings(self):
        for stations, ends in ((2, "01 10 01 10 01 10 01 10"), (3, "01 12 20 01 12 20 01 10"), (4, "01 12 23 30 02 20 13 31"),
                               (8, "01 10 23 32 45 54 67 76"), (5, "01 10 12 21 23 32 34 43"), (8, "01 12 23 34 45 56 67 70")):
            for full in (False, True):
                town = Town([(f"s{at}", 9, 9 if full else 0) for at in range(stations)],
                            [(f"r{at}", f"s{pair[0]}", f"s{pair[1]}", True) for at, pair in enumerate(ends.split())])
                cheap = {mend: 1 if mend[0] == "unkept" else 3 for mend in mends_of(town)}
                mixed = {mend: 0 if at % 3 else 10 for at, mend in enumerate(cheap)}
                for prices in (all_prices(town, 0), all_prices(town), all_prices(town, 9999), cheap, mixed):
                    start = time.perf_counter()
                    cheapest_mends(town, prices)
                    self.assertLess(time.perf_counter() - start, SECONDS)
                    self.check(town, prices)


class ErrorsTest(unittest.TestCase):
    def test_unfair_then_too_large(self):
        rides = [(f"r{at}", "a", "b", True) for at in range(9)]
        answer = ("yes", 0, [], ("price", 0), ("price", 0))
        towns = [(dry().without(["r3"]), ("NotFair", "a", -1)),
                 (Town([("a", 20, 1), ("b", 20, 0)], rides), ("NotFair", "a", -8)),
                 (Town([("a", 20, 9), ("b", 20, 0)], rides), ("TooLarge", 9)),
                 (Town([("a", 20, 9), ("b", 20, 0)], rides[:8]), None)]
        for town, error in towns:
            self.assertEqual(error_of(cheapest_mends, town, {}), error)
            self.assertEqual(error_of(judge_mends, town, {}, answer), error)
            self.assertEqual(error_of(judge_mends, town, {}, ("yes", 7, [("x", "y")], ("", 1), ("", 2))), error)


class JudgeTest(unittest.TestCase):
    def setUp(self):
        self.prices = {**all_prices(shared(), 2), ("reserve", "b"): 5, ("spare", "f"): 5, ("spare", "g"): 3}
        self.answer = cheapest_mends(shared(), self.prices)

    def judge(self, answer, prices=None):
        told = judge_mends(shared(), self.prices if prices is None else prices, answer)
        self.assertIs(type(told), bool)
        self.assertEqual(told, answer[0] == "yes" and accepts(shared(), self.prices if prices is None else prices, answer))
        return told

    def bent(self, at, part):
        return self.judge((*self.answer[:at], part, *self.answer[at + 1:]))

    def test_right(self):
        self.assertEqual(self.answer[1], 7)
        self.assertTrue(self.judge(self.answer))
        self.assertTrue(self.bent(2, self.answer[2][::-1]))

    def test_bent_words(self):
        for word in ("no", "", "Yes", "price"):
            self.assertFalse(judge_mends(shared(), self.prices, (word, *self.answer[1:])))

    def test_a_no_is_not_accepted(self):
        self.assertIs(judge_mends(dry(), {}, ("no", "empty", ["r1", "r2"])), False)
        self.assertIs(judge_mends(dry(), {}, ("yes", "empty", ["r1", "r2"])), False)

    def test_bent_prices(self):
        for price in (0, 6, 8, -7, 10 ** 9):
            self.assertFalse(self.bent(1, price))
        for mend in self.answer[2]:
            self.assertFalse(self.judge(self.answer, {**self.prices, mend: self.prices[mend] + 1}))
            self.assertFalse(self.judge(self.answer, {key: price for key, price in self.prices.items() if key != mend}))

    def test_bent_mends(self):
        mends = self.answer[2]
        for other in ([], mends[1:], mends[:-1], mends + mends[:1], mends + [("spare", "a")], mends[1:] + [("x", "y")],
                      mends[1:] + [("reserve", "x")], mends[1:] + [("unkept", "a")], mends + [("", "")],
                      mends[1:] + mends[1:2], mends + [("reserve", "street")]):
            self.assertFalse(self.bent(2, other), other)

    def test_dearer_mends(self):
        # They break all rings, but their price is not what the trees show.
        for mends in ([("reserve", "b"), ("spare", "g")], [("reserve", "a"), ("reserve", "c"), ("spare", "f")],
                      [("reserve", "a"), ("reserve", "c"), ("unkept", "p"), ("unkept", "s")]):
            price = sum(self.prices[mend] for mend in mends)
            self.assertGreater(price, 7)
            self.assertFalse(self.judge(("yes", price, mends, *self.answer[3:])))

    def test_a_mend_that_costs_nothing_and_breaks_nothing(self):
        prices = {**self.prices, ("spare", "a"): 0}
        self.assertTrue(self.judge(("yes", 7, self.answer[2] + [("spare", "a")], *self.answer[3:]), prices))
        self.assertFalse(self.judge(("yes", 9, self.answer[2] + [("spare", "a")], *self.answer[3:])))

    def test_a_mend_that_stands_twice(self):
        prices = {**self.prices, ("spare", "a"): 0}
        for mend in (("spare", "a"), self.answer[2][0]):
            mends = self.answer[2] + [mend, mend]
            told = ("yes", sum(prices[one] for one in mends), mends, *self.answer[3:])
            self.assertFalse(self.judge(told, prices))

    def places(self, tree, way=()):
        """All places of a tree, as ways of positions."""
        found = [way]
        if tree[0] == "ring":
            for at, (_, branch) in enumerate(tree[2]):
                found += self.places(branch, (*way, at))
        return found

    def at(self, tree, way):
        return tree if not way else self.at(tree[2][way[0]][1], way[1:])

    def put(self, tree, way, part):
        """The tree with another part at a place."""
        if not way:
            return part
        branches = [(mend, self.put(branch, way[1:], part) if at == way[0] else branch)
                    for at, (mend, branch) in enumerate(tree[2])]
        return (tree[0], tree[1], branches)

    def test_trees_bent_in_one_place(self):
        for at in (3, 4):
            tree = self.answer[at]
            self.assertEqual(tree[0], "ring")
            for way in self.places(tree):
                here = self.at(tree, way)
                for part in self.bends(here):
                    told = self.bent(at, self.put(tree, way, part))
                    self.assertFalse(told, (way, part))

    def bends(self, here):
        """What is wrong in the place of a part of a tree."""
        if here[0] == "price":
            return [("price", here[1] + 1), ("price", here[1] - 1), ("price", 0), ("prize", here[1]), ("ring", [], []),
                    ("ring", ["r1", "r2"], []), ("", here[1]), ("ring", here[1]), ("price", "ring")]
        word, ring, branches = here
        bent = [("price", 0), ("price", 4), ("price", 99), ("Ring", ring, branches), (word, ring[1:], branches),
                ("price", ring, branches), ("ring", 0),
                (word, [], branches), (word, ring + ring, branches), (word, ring + ["x"], branches),
                (word, ["x", "y"], branches), (word, ring, []), (word, ring, branches[1:]), (word, ring, branches[:-1]),
                (word, ring, branches + branches[:1]), (word, ring, branches[1:] + branches[1:2]),
                (word, ring, branches + [(("spare", "x"), ("price", 0))]),
                (word, ring, branches[1:] + [(("unkept", "r1"), branches[0][1])]),
                (word, ring, branches[1:] + [(("x", "y"), branches[0][1])])]
        other = ["p", "q"] if ring[0] in ("r1", "r2", "r3", "r4") else ["r1", "r2"]
        return bent + [(word, other, branches)]

    def test_rings_and_branches_in_another_order(self):
        for at in (3, 4):
            word, ring, branches = self.answer[at]
            self.assertTrue(self.bent(at, (word, ring[1:] + ring[:1], branches)))
            self.assertTrue(self.bent(at, (word, ring, branches[::-1])))

    def test_trees_of_the_other_kind(self):
        _, price, mends, low, high = self.answer
        self.assertFalse(self.judge(("yes", price, mends, high, low)))
        self.assertFalse(self.judge(("yes", price, mends, low, ("price", 0))))
        self.assertFalse(self.judge(("yes", price, mends, ("price", 0), high)))

    def test_a_ring_that_is_broken_on_the_way(self):
        prices = {("reserve", "a"): 1, ("reserve", "b"): 4, ("reserve", "c"): 1}
        town = shared().without(["p", "q", "s", "t"])
        leaf = ("price", 0)
        inner = [(("reserve", "b"), ("price", 5)), (("reserve", "c"), ("price", 2))]
        good = ("ring", ["r1", "r2"], [(("reserve", "a"), ("ring", ["r4", "r3"], inner)), (("reserve", "b"), ("price", 4))])
        mends = [("reserve", "a"), ("reserve", "c")]
        self.assertIs(judge_mends(town, prices, ("yes", 2, mends, good, leaf)), True)
        inner = [(("reserve", "a"), ("price", 2)), (("reserve", "b"), ("price", 5))]
        bad = ("ring", ["r1", "r2"], [(("reserve", "a"), ("ring", ["r1", "r2"], inner)), (("reserve", "b"), ("price", 4))])
        self.assertIs(judge_mends(town, prices, ("yes", 2, mends, bad, leaf)), False)

    def test_a_deep_tree(self):
        """Twelve nodes from the root to a leaf cannot be right in a small town, and are told so."""
        tree = ("price", 0)
        for _ in range(11):
            tree = ("ring", ["r1", "r2"], [(("reserve", "a"), tree), (("reserve", "b"), ("price", 5))])
        self.assertFalse(self.bent(3, tree))

    def test_answers_about_random_towns(self):
        chance = random.Random(184)
        good = 0
        for town in fair_towns(300, 185):
            prices = {mend: chance.randint(0, 3) for mend in mends_of(town)}
            answer = cheapest_mends(town, prices)
            for other in ({**prices, mend: prices[mend] + 1} for mend in list(prices)[:6]):
                self.assertIs(judge_mends(town, other, answer), accepts(town, other, answer))
                good += accepts(town, other, answer)
            for mends in itertools.islice(itertools.combinations(mends_of(town), 2), 12):
                told = ("yes", sum(prices[mend] for mend in mends), list(mends), *answer[3:])
                self.assertIs(judge_mends(town, prices, told), accepts(town, prices, told))
        self.assertGreater(good, 100)

    def test_arguments_stay(self):
        before = copy.deepcopy((self.prices, self.answer))
        judge_mends(shared(), self.prices, self.answer)
        self.assertEqual((self.prices, self.answer), before)


if __name__ == "__main__":
    unittest.main()
