"""Whether everybody rides in every order, and the certificates of it ([22], [23])."""

import itertools
import unittest

from helper import all_rings, brim, dry, fair_towns, inside, is_ring, left_after, left_lists
from ridesonce.ends import empties, ends, fulls
from ridesonce.every import every, judge_every
from ridesonce.towns import Town


def longest_rows(town, kind):
    """For each station the number of rides in the longest row that ends at it, out of all rows."""
    rides = inside(town, kind)
    numbers = {name: 0 for name in (empties(town) if kind == "empty" else fulls(town))}
    for many in range(1, len(rides) + 1):
        for row in itertools.permutations(rides, many):
            if all(one[2] == two[1] for one, two in zip(row, row[1:])):
                numbers[row[-1][2]] = max(numbers[row[-1][2]], many)
    return numbers


def rows_town():
    """A town in which every final order is complete, with rows of both kinds."""
    stations = [("h", 1, 1), ("g", 1, 0), ("f", 2, 2), ("c", 2, 0), ("b", 3, 0), ("a", 3, 3)]
    rides = [("r0", "a", "b", True), ("r1", "b", "c", False), ("r2", "a", "c", True), ("r3", "c", "street", True),
             ("r4", "c", "g", True), ("r5", "a", "street", True), ("r6", "h", "f", True), ("r7", "f", "h", False)]
    return Town(stations, rides)


def both_kinds():
    stations = [("f", 1, 1), ("g", 2, 2), ("e", 2, 0), ("h", 2, 0), ("i", 2, 1)]
    rides = [("r0", "f", "g", True), ("r1", "g", "f", True), ("r3", "e", "h", True), ("r4", "h", "e", True),
             ("r5", "i", "e", True), ("r6", "e", "i", True)]
    return Town(stations, rides)


class EveryTest(unittest.TestCase):
    def test_examples(self):
        self.assertEqual(every(brim()), ("no", "full", ["r1", "r2"], ["r3", "r4"]))
        self.assertEqual(every(dry().without(["r4"])), ("yes", {"b": 0, "c": 0}, {}))

    def test_town_without_stations(self):
        self.assertEqual(every(Town.empty()), ("yes", {}, {}))

    def test_numbers_are_those_of_the_longest_rows(self):
        town = rows_town()
        self.assertEqual(ends(town), {"h": 1, "g": 1, "f": 2, "c": 0, "b": 0, "a": 0})
        self.assertEqual(every(town), ("yes", {"c": 2, "b": 1, "a": 0}, {"h": 0, "g": 0, "f": 1}))
        self.assertEqual(list(every(town)[1]), ["c", "b", "a"])
        self.assertEqual(list(every(town)[2]), ["h", "g", "f"])

    def test_unkept_rides_make_no_full_ring(self):
        # r6 and r7 would be a ring of full stations, but r7 is unkept.
        self.assertEqual(left_lists(rows_town()), [()])

    def test_an_empty_ring_comes_first(self):
        word, kind, ring, order = every(both_kinds())
        self.assertEqual((word, kind, sorted(ring)), ("no", "empty", ["r3", "r4"]))
        self.assertTrue({"r3", "r4"} <= set(left_after(both_kinds(), order)))

    def test_a_ring_beside_a_dead_lot(self):
        # The second ring cannot begin at all; it does not keep the order from being final.
        town = Town([("a", 2, 0), ("b", 2, 0), ("c", 2, 1), ("x", 1, 1), ("y", 1, 1)],
                    list(dry().rides) + [("p", "x", "y", True), ("q", "y", "x", True)])
        word, kind, ring, order = every(town)
        self.assertEqual((word, kind, sorted(ring)), ("no", "empty", ["r1", "r2"]))
        self.assertEqual(left_after(town, order), ["r1", "r2", "p", "q"])

    def test_when_the_rest_is_dead_without_the_ring(self):
        # Without the ring r0, r1 the rides r2 and r3 are a dead lot.
        town = Town([("a", 1, 0), ("b", 1, 0), ("c", 1, 0)],
                    [("r0", "a", "b", True), ("r1", "b", "a", True), ("r2", "b", "c", True), ("r3", "c", "b", True)])
        self.assertEqual(every(town)[:2], ("no", "empty"))
        self.assertEqual(every(town)[3], [])

    def test_against_other_code(self):
        words = {}
        for town in fair_towns(600, 31):
            told = every(town)
            words[told[:1]] = words.get(told[:1], 0) + 1
            rings = all_rings(town)
            self.assertEqual(told[0] == "yes", left_lists(town) == [()])
            self.assertEqual(told[0] == "yes", rings == [])
            self.assertIs(judge_every(town, told), True)
            if told[0] == "yes":
                self.assertEqual(told[1:], (longest_rows(town, "empty"), longest_rows(town, "full")))
                self.assertEqual(list(told[1]), empties(town))
                self.assertEqual(list(told[2]), fulls(town))
                continue
            _, kind, ring, order = told
            self.assertEqual(kind, rings[0][0])
            self.assertTrue(is_ring(town, kind, ring))
            self.assertTrue(set(ring) <= set(left_after(town, order)))
        self.assertGreater(words[("no",)], 50)


class JudgeTest(unittest.TestCase):
    YES = {"c": 2, "b": 1, "a": 0}, {"h": 0, "g": 0, "f": 1}

    def judge(self, low=None, high=None):
        verdict = ("yes", {**self.YES[0], **(low or {})}, {**self.YES[1], **(high or {})})
        return judge_every(rows_town(), verdict)

    def test_yes(self):
        self.assertIs(self.judge(), True)
        self.assertIs(judge_every(Town.empty(), ("yes", {}, {})), True)
        self.assertIs(judge_every(dry().without(["r4"]), ("yes", {"c": 0, "b": 0}, {})), True)

    def test_any_numbers_that_rise(self):
        self.assertIs(self.judge({"c": 999, "b": -5, "a": -6}, {"g": 77, "h": 9, "f": 10}), True)

    def test_numbers_that_do_not_rise(self):
        self.assertIs(self.judge({"a": 1}), False)
        self.assertIs(self.judge({"a": 2}), False)
        self.assertIs(self.judge({"b": 2}), False)
        self.assertIs(self.judge({"c": 0}), False)
        self.assertIs(self.judge({"c": 1}), False)
        self.assertIs(self.judge({}, {"f": 0}), False)
        self.assertIs(self.judge({}, {"h": 1}), False)

    def test_the_order_of_the_keys_does_not_count(self):
        low, high = [dict(reversed(list(part.items()))) for part in self.YES]
        self.assertIs(judge_every(rows_town(), ("yes", low, high)), True)

    def test_other_keys(self):
        self.assertIs(self.judge({"g": 5}), False)
        self.assertIs(self.judge({"x": 5}), False)
        self.assertIs(self.judge({"street": 5}), False)
        self.assertIs(self.judge({}, {"x": 5}), False)
        self.assertIs(self.judge({}, {"a": 5}), False)
        for name in self.YES[0]:
            low = {key: number for key, number in self.YES[0].items() if key != name}
            self.assertIs(judge_every(rows_town(), ("yes", low, self.YES[1])), False)
        for name in self.YES[1]:
            high = {key: number for key, number in self.YES[1].items() if key != name}
            self.assertIs(judge_every(rows_town(), ("yes", self.YES[0], high)), False)
        self.assertIs(judge_every(rows_town(), ("yes", {}, {})), False)
        self.assertIs(judge_every(rows_town(), ("yes", self.YES[1], self.YES[0])), False)

    def test_a_yes_where_there_is_a_ring(self):
        for first, second in itertools.product(range(-2, 3), repeat=2):
            self.assertIs(judge_every(dry(), ("yes", {"a": first, "b": second}, {})), False)
            self.assertIs(judge_every(brim(), ("yes", {"c": 0}, {"a": first, "b": second})), False)

    def test_no(self):
        self.assertIs(judge_every(brim(), ("no", "full", ["r1", "r2"], ["r3", "r4"])), True)
        self.assertIs(judge_every(dry(), ("no", "empty", ["r1", "r2"], ["r3", "r4"])), True)

    def test_the_ring_may_begin_at_any_of_its_rides(self):
        self.assertIs(judge_every(brim(), ("no", "full", ["r2", "r1"], ["r3", "r4"])), True)

    def test_a_full_ring_beside_an_empty_ring(self):
        town = both_kinds()
        order = every(town)[3]
        for kind, ring in (("empty", ["r3", "r4"]), ("full", ["r0", "r1"])):
            self.assertIs(judge_every(town, ("no", kind, ring, order)), True)
        self.assertIs(judge_every(town, ("no", "full", ["r3", "r4"], order)), False)
        self.assertIs(judge_every(town, ("no", "empty", ["r0", "r1"], order)), False)

    def test_bent_kinds(self):
        for kind in ("empty", "Full", "", "street", "yes", "no"):
            self.assertIs(judge_every(brim(), ("no", kind, ["r1", "r2"], ["r3", "r4"])), False)

    def test_bent_rings(self):
        for ring in ([], ["r1"], ["r2"], ["r1", "r1"], ["r1", "r2", "r1"], ["r1", "r2", "r1", "r2"], ["r3", "r4"],
                     ["r1", "x"], ["x"], ["r1", "r2", "x"], ["r1", "r3"], ["a", "b"], ["street"]):
            self.assertIs(judge_every(brim(), ("no", "full", ring, ["r3", "r4"])), False, ring)

    def test_bent_orders(self):
        for order in ([], ["r3"], ["r4"], ["r4", "r3"], ["r3", "r4", "r1"], ["r3", "r4", "r4"], ["r3", "x"], ["x"],
                      ["r3", "r3", "r4"], ["r3", "r4", "x"], ["a"]):
            self.assertIs(judge_every(brim(), ("no", "full", ["r1", "r2"], order)), False, order)
        for order in (["r3", "r1", "r2", "r4"], ["r3", "r1"], ["r3"], []):
            self.assertIs(judge_every(dry(), ("no", "empty", ["r1", "r2"], order)), False, order)

    def test_rides_of_the_ring_that_are_not_left(self):
        town = Town([("a", 2, 0), ("b", 2, 0), ("c", 2, 1)], [*dry().rides, ("r5", "a", "b", True)])
        town = town.with_ride("r6", "b", "a")
        left = ["r1", "r2"]
        order = ["r3", "r5", "r6", "r4"]
        self.assertEqual(left_after(town, order), left)
        self.assertIs(judge_every(town, ("no", "empty", left, order)), True)
        for ring in (["r5", "r6"], ["r1", "r6"], ["r5", "r2"]):
            self.assertTrue(is_ring(town, "empty", ring))
            self.assertIs(judge_every(town, ("no", "empty", ring, order)), False)

    def test_no_form_at_all(self):
        for verdict in (("", {}, {}), ("no", {}, {}), ("maybe", "full", ["r1", "r2"], ["r3", "r4"]),
                        ("yes", "full", ["r1", "r2"], ["r3", "r4"])):
            self.assertIs(judge_every(brim(), verdict), False)
        for word in ("no", "", "sure", "empty"):
            self.assertIs(judge_every(rows_town(), (word, *self.YES)), False)

    def test_certificates_bent_in_one_place(self):
        for town in fair_towns(250, 32):
            told = every(town)
            if told[0] == "no":
                _, kind, ring, order = told
                other = "full" if kind == "empty" else "empty"
                bent = [(other, ring, order), (kind, ring[1:], order), (kind, ring + ring[:1], order),
                        (kind, ring, order + [ring[0]]), (kind, ring, order + ["x"])]
                if order:
                    bent += [(kind, ring, order[:-1]), (kind, ring, ["x"] + order)]
                for rest in bent:
                    self.assertIs(judge_every(town, ("no", *rest)), False, rest)
            else:
                for kind, at in (("empty", 1), ("full", 2)):
                    for ride in inside(town, kind):
                        numbers = {**told[at], ride[1]: told[at][ride[2]]}
                        bent = ("yes", numbers, told[2]) if at == 1 else ("yes", told[1], numbers)
                        self.assertIs(judge_every(town, bent), False)


if __name__ == "__main__":
    unittest.main()
