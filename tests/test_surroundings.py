"""Districts in their surroundings, and surroundings that tell two districts apart ([56])."""

import itertools
import random
import unittest

from helper import error_of, has_complete, is_fair, left_lists, rows
from pieces import part_a, random_district, random_districts, random_surrounding, told
from ridesonce.districts import District
from ridesonce.notes import answer_of, note_of
from ridesonce.surroundings import part, placed


def by_search(town):
    """The answer of a town out of all its orders."""
    return ("fair", left_lists(town) == [()], has_complete(town)) if is_fair(town) else ("unfair",)


def rides_of(*pairs, kept=True):
    return [(f"r{at}", start, goal, kept) for at, (start, goal) in enumerate(pairs)]


def district(border, *pairs, stations=(), kept=True):
    return District(list(stations), list(border), rides_of(*pairs, kept=kept))


class PlacedTest(unittest.TestCase):
    def test_order_of_stations_and_rides(self):
        surrounding = ([("q", 3, 1), ("p", 4, 2)], [("z", 1, 0), ("y", 2, 2)], [("m", "z", "p", False), ("l", "q", "y", True)])
        town = placed(part_a(), surrounding)
        self.assertEqual(rows(town), ((("x", 1, 0), ("q", 3, 1), ("p", 4, 2), ("z", 1, 0), ("y", 2, 2)),
                                      (*part_a().rides, ("m", "z", "p", False), ("l", "q", "y", True))))

    def test_nothing(self):
        self.assertEqual(rows(placed(District([], [], []), ([], [], []))), ((), ()))

    def test_errors_of_a_town(self):
        good = [("p", 1, 0), ("q", 1, 0)]
        many = [(f"s{at}", 1, 0) for at in range(10)]
        for surrounding, expected in (
                ((good, many, []), ("TooLarge", 13)), ((good, many[:9], []), None),
                ((good, [], rides_of(*[("p", "q")] * 23)), ("TooLarge", 25)),
                (([("p", 0, 0), good[1]], [], []), ("BadNumber", 0)), (([("p", 1, 2), good[1]], [], []), ("BadNumber", 2)),
                ((good, [("Z", 1, 0)], []), ("BadName", "Z")), ((good, [("q", 1, 0)], []), ("Duplicate", "q")),
                ((good, [("x", 1, 0)], []), ("Duplicate", "x")), (([good[0], ("x", 1, 0)], [], []), ("Duplicate", "x")),
                ((good[:1], [], []), ("UnknownStation", "q")), ((good, [], [("r1", "p", "q", True)]), ("Duplicate", "r1")),
                ((good, [], [("r3", "p", "z", True)]), ("UnknownStation", "z")),
                ((good, [], [("r3", "p", "p", True)]), ("SameEnds", "r3")),
                ((good, [], [("r3", "p", "street", False)]), ("NotKept", "r3"))):
            self.assertEqual(error_of(placed, part_a(), surrounding), expected)

    def test_arguments_stay(self):
        surrounding = ([("p", 1, 0), ("q", 1, 0)], [("z", 1, 0)], [("m", "z", "p", True)])
        one = part_a()
        town = placed(one, surrounding)
        before = rows(town)
        self.assertEqual(surrounding, ([("p", 1, 0), ("q", 1, 0)], [("z", 1, 0)], [("m", "z", "p", True)]))
        for rest in surrounding:
            rest.clear()
        self.assertEqual((rows(town), told(one)), (before, told(part_a())))


class PartTest(unittest.TestCase):
    def check(self, first, second):
        """The answers of the two in the surrounding of part, None if there is none."""
        found = []
        for one, two in ((first, second), (second, first)):
            surrounding = part(one, two)
            same = note_of(one).form == note_of(two).form
            self.assertEqual(surrounding is None, same)
            if surrounding is not None:
                self.assertEqual([type(rest) for rest in surrounding], [list] * 3)
                self.assertEqual(len({id(rest) for rest in surrounding}), 3)
                self.assertEqual(sorted(row[0] for row in surrounding[0]), sorted(one.border))
                self.assertEqual(len(surrounding), 3)
                answers = [answer_of(placed(one, surrounding)), answer_of(placed(two, surrounding))]
                self.assertNotEqual(*answers)
                found = answers if not found else found
        return found or None

    def slow_check(self, first, second):
        """The same for towns small enough to go through all orders."""
        surrounding = part(first, second)
        towns = [placed(first, surrounding), placed(second, surrounding)]
        self.assertEqual([by_search(town) for town in towns], [answer_of(town) for town in towns])
        self.assertNotEqual(by_search(towns[0]), by_search(towns[1]))

    def test_none_for_equal_forms(self):
        self.assertIsNone(part(part_a(), part_a()))
        self.assertIsNone(part(District([], [], []), District([], [], [])))
        second = District([("y", 4, 0), ("z", 9, 0)], ["q", "p"], [("b", "y", "z", False), ("a", "p", "y", True),
                                                                     ("c", "z", "q", True)])
        self.assertEqual(note_of(second).form, note_of(District([("x", 2, 0)], ["p", "q"], [
            ("r1", "p", "x", False), ("r2", "x", "q", True)])).form)
        self.assertIsNone(part(second, District([("x", 2, 0)], ["p", "q"], [("r1", "p", "x", False),
                                                                              ("r2", "x", "q", True)])))

    def test_unfair_inside(self):
        unfair = district("pq", ("x", "p"), stations=[("x", 1, 0)])
        self.assertEqual(self.check(unfair, district("qp"))[0], ("unfair",))
        self.assertIsNone(self.check(unfair, district("qp", ("p", "x"), stations=[("x", 1, 1)])))

    def test_nets(self):
        for low, high in itertools.combinations(range(-3, 4), 2):
            pair = [district("p", *[("p", "street")] * -net, *[("street", "p")] * net) for net in (low, high)]
            answers = self.check(*pair)
            self.assertEqual(sum(answer == ("unfair",) for answer in answers), 1)
        far = [district("p", *[ends] * 10) for ends in (("p", "street"), ("street", "p"))]
        self.assertIsNotNone(self.check(*far))

    def test_a_ring_of_one_alone(self):
        for bikes in (0, 1):
            ring = district("p", ("x", "y"), ("y", "x"), ("x", "p"), ("p", "x"), stations=[("x", 1, bikes), ("y", 1, bikes)])
            other = district("p", ("x", "p"), ("p", "x"), stations=[("x", 1, bikes)])
            self.slow_check(ring, other)
            self.assertEqual([answer[1] for answer in self.check(ring, other)], [False, True])

    def test_ways_to_itself(self):
        for bikes, kept in ((0, True), (1, True), (0, False)):
            loop = district("p", ("x", "p"), ("p", "x"), stations=[("x", 1, bikes)], kept=kept)
            other = district("p", ("x", "p"), ("p", "x"), stations=[("x", 2, 1)], kept=kept)
            self.slow_check(loop, other)
            self.assertEqual([answer[1] for answer in self.check(loop, other)], [False, True])

    def test_ways_from_one_to_another(self):
        for bikes in (0, 2):
            for many in (1, 2, 5):
                pairs = [("p", "x")] * many + [("x", "q")] * many
                way = district("pq", *pairs, stations=[("x", 2, bikes)])
                other = district("qp", *pairs, stations=[("x", 2, 1)])
                self.assertEqual([answer[1] for answer in self.check(way, other)], [False, True])

    def test_ways_with_the_most_rides(self):
        for start, goal in (("p", "q"), ("q", "p")):
            way = district("pq", *[(start, goal)] * 10)
            other = district("pq", *[(start, "street"), ("street", goal)] * 5)
            self.assertIsNotNone(self.check(way, other))
            through = district("pq", *[(start, "x"), ("x", goal)] * 5, stations=[("x", 9, 4)])
            # Without a way there are lots alone, and all of them are alive.
            self.assertIsNone(self.check(through, other))
            self.assertIsNotNone(self.check(district("pq", *[(start, "x"), ("x", goal)] * 5, stations=[("x", 9, 0)]), through))

    def test_a_dead_lot_inside_one_alone(self):
        # Both have a ring inside, so they differ in their lots alone.
        for bikes in (0, 1):
            pairs = [("x", "y"), ("y", "x")]
            stations = [("x", 1, bikes), ("y", 1, bikes)]
            dead = district("p", *pairs, stations=stations)
            other = district("p", *pairs, ("x", "p"), ("p", "x"), stations=stations)
            self.assertEqual([answer[2] for answer in self.check(dead, other)], [False, True])

    def test_lots(self):
        cases = [
            (district("pq", ("p", "q"), ("q", "p")), district("pq", ("p", "q"), ("q", "p"), kept=False)),
            (district("pq", ("x", "p"), ("p", "x"), ("y", "q"), ("q", "y"), stations=[("x", 9, 4), ("y", 9, 4)]),
             district("pq", ("x", "p"), ("p", "x"), ("x", "q"), ("q", "x"), stations=[("x", 9, 4)])),
        ]
        self.assertIsNotNone(self.check(*cases[0]))
        # Both lots of the one and the lot of the other are alive, which is all that counts.
        self.assertIsNone(self.check(*cases[1]))

    def with_hub(self, groups, bikes):
        """For each group a lot around one inner station without bikes or without room, and a ring that hides all ways."""
        stations, rides = [("h", 1, 0), ("i", 1, 0)], [("h", "i"), ("i", "h"), ("h", "street"), ("street", "h")]
        for hub, group in zip("xyz", groups):
            stations.append((hub, 1, bikes))
            rides += [ends for name in group for ends in ((name, hub), (hub, name))]
        return district("pqs", *rides, stations=stations)

    def test_lots_that_differ_in_their_stations(self):
        for bikes in (0, 1):
            for one, two in ((["pq"], ["p", "q"]), (["pqs"], ["pq", "s"]), (["pq", "s"], ["p", "qs"]), (["pq"], []),
                             (["p"], []), (["p", "q"], ["p"]), (["pqs"], ["p", "q", "s"]), (["qs"], ["p", "qs"])):
                pair = [self.with_hub(groups, bikes) for groups in (one, two)]
                self.assertEqual(note_of(pair[0]).form[:3], note_of(pair[1]).form[:3])
                self.assertNotIn(("dead",), [note_of(one).form[3] for one in pair])
                self.assertEqual({answer[2] for answer in self.check(*pair)}, {True, False})

    def test_lots_with_nets(self):
        for bikes in (0, 1):
            hidden = [("h", "i"), ("i", "h"), ("h", "street"), ("street", "h")]
            for many in (1, 2, 3):
                stations = [("h", 1, 0), ("i", 1, 0)]
                one = [("p", "x"), ("x", "q")] * many
                two = [("p", "x"), ("y", "q")] * many
                three = [("p", "q")] * many
                # Other border stations with nets stand beside them, in lots that are alive.
                for more in ([], [("a", "street"), ("street", "b")][:6 - 2 * many]):
                    triple = [
                        district("pqab", *hidden, *more, *one, stations=[*stations, ("x", 1, bikes)]),
                        district("bqpa", *hidden, *more, *two, stations=[*stations, ("x", 3, 0), ("y", 3, 3)]),
                        district("abqp", *hidden, *more, *three, stations=stations)]
                    for pair in itertools.combinations(triple, 2):
                        self.assertEqual(note_of(pair[0]).form[:3], note_of(pair[1]).form[:3])
                        self.assertEqual({answer[2] for answer in self.check(*pair)}, {True, False})

    def test_lots_behind_equal_ways_and_nets(self):
        # A ring inside hides all ways, so that lots alone are left to differ.
        ring = [("r8", "x", "y", True), ("r9", "y", "x", True)]
        for bikes, kept in ((0, True), (1, True), (0, False)):
            stations = [("x", 1, bikes), ("y", 1, bikes)]
            for first, second in ((("p", "q"), ("q", "p")), (("p", "x"), ("x", "p")), (("p", "x"), ("x", "q"))):
                rides = [("r0", *first, kept), ("r1", *second, kept)]
                for others in ([], [("r0", "p", "q", True), ("r1", "q", "p", True)], [("r0", "p", "x", True),
                                                                                      ("r1", "x", "q", True)],
                               [("r0", "q", "p", False), ("r1", "p", "q", True)], [("r0", "street", "q", True),
                                                                                    ("r1", "q", "street", True)]):
                    one = District(stations, ["p", "q"], [*rides, ("r2", "x", "p", True), ("r3", "p", "x", True), *ring])
                    two = District(stations, ["q", "p"], [*others, ("r2", "x", "p", True), ("r3", "p", "x", True), *ring])
                    self.check(one, two)

    def test_alive_and_without_rides(self):
        ring = [("r8", "x", "y", True), ("r9", "y", "x", True)]
        stations = [("x", 1, 0), ("y", 1, 0)]
        alive = District(stations, ["p", "q"], [("r0", "street", "p", True), ("r1", "p", "street", True), *ring,
                                                ("r2", "x", "q", True), ("r3", "q", "x", True)])
        other = District(stations, ["p", "q"], [*ring, ("r2", "x", "q", True), ("r3", "q", "x", True)])
        self.assertEqual(note_of(alive).form[:3], note_of(other).form[:3])
        self.assertEqual([answer[2] for answer in self.check(alive, other)], [True, False])

    def test_names_of_the_two_are_avoided(self):
        stations = [(f"s{at}", 2, 1) for at in range(6)]
        names = [f"r{at}" for at in range(10)]
        border = ["s6", "s7", "s8", "s9", "r1"]
        street = [("street", "s6"), ("s6", "street")] * 5
        alive = District(stations, border, [(name, *ends, True) for name, ends in zip(names, street)])
        other = District([(f"s{at + 10}", 1, 0) for at in range(6)], border[::-1], [])
        self.assertEqual([answer[2] for answer in self.check(alive, other)], [True, False])

    def test_other_borders(self):
        for one, two in (("pq", "p"), ("", "p"), ("pq", "ps")):
            self.assertEqual(error_of(part, district(one), district(two)), ("OtherBorder",))
        self.assertIsNone(part(district("pq"), district("qp")))

    def test_handy_districts_and_larger_ones(self):
        inner = [(f"s{at}", 1, 0) for at in range(8)]
        border = [f"b{at}" for at in range(6)]
        rides = rides_of(*[("b0", "street")] * 12)
        good = District(inner[:6], border[:5], rides[:10])
        self.assertIsNotNone(part(good, District([], border[:5], [])))
        for large, expected in ((District(inner[:7], border[:5], rides[:10]), ("TooLarge", 7)),
                                (District(inner[:7], border[:5], rides[:11]), ("TooLarge", 7)),
                                (District(inner[:6], border[:5], rides[:11]), ("TooLarge", 11))):
            self.assertEqual(error_of(part, large, good), expected)
            self.assertEqual(error_of(part, good, large), expected)
        six = [District(inner[:many], border, rides[:11]) for many in (6, 7)]
        self.assertEqual(error_of(part, six[0], six[0]), ("TooLarge", 6))
        self.assertEqual(error_of(part, six[1], six[0]), ("TooLarge", 7))
        # The first is looked at before the second, and the border names before both.
        self.assertEqual(error_of(part, District(inner[:6], border[:5], rides[:11]),
                                  District(inner[:7], border[:5], [])), ("TooLarge", 11))
        self.assertEqual(error_of(part, six[1], good), ("OtherBorder",))

    def test_random_districts(self):
        chance, pool, seen = random.Random(361), {}, set()
        for one in random_districts(2500, 362, most_border=4):
            form = note_of(one).form
            others = pool.setdefault((tuple(sorted(one.border)), form[1] if len(form) > 1 else None), [])
            for other in chance.sample(others, min(3, len(others))):
                answers = self.check(one, other)
                parts = [at for at in range(len(form)) if form[at] != note_of(other).form[at]]
                seen.add(parts[0] if parts else None)
                if answers is None:
                    self.in_surroundings(one, other, chance)
            others.append(one)
        self.assertLessEqual({None, 2, 3}, seen)

    def in_surroundings(self, one, other, chance):
        """Districts with equal notes give equal answers."""
        for _ in range(3):
            surrounding = random_surrounding(chance, one)
            if not {row[0] for row in surrounding[1]} & {row[0] for row in one.stations + other.stations}:
                self.assertEqual(answer_of(placed(one, surrounding)), answer_of(placed(other, surrounding)))

    def test_large_handy_districts(self):
        chance = random.Random(363)
        for _ in range(200):
            border = chance.sample("abcde", 5)
            pair = [random_district(chance, border, most_inner=6, most_rides=10) for _ in range(2)]
            self.check(*pair)

    def test_arguments_stay(self):
        one, two = part_a(), district("qp")
        surrounding = part(one, two)
        for rest in surrounding:
            rest.clear()
        self.assertEqual((told(one), told(two)), (told(part_a()), told(district("qp"))))
        self.assertIsNotNone(self.check(one, two))


if __name__ == "__main__":
    unittest.main()
