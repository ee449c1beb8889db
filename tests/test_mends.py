"""Docks and rides that are mended ([43])."""

import itertools
import unittest

from helper import all_rings, brim, dry, error_of, fair_towns, is_fair, names_of, random_towns, rows
from ridesonce.mends import mended, mends_against
from ridesonce.rings import bad_rings
from ridesonce.steps import run
from ridesonce.towns import Town


def mends_of(town):
    """All mends that a town has."""
    found = [(word, station[0]) for word in ("reserve", "spare") for station in town.stations]
    return found + [("unkept", ride[0]) for ride in town.rides if ride[3] and "street" not in ride[1:3]]


def breaks(town, mend, kind, ring):
    """Whether a mend breaks a bad ring, told word by word."""
    word, name = mend
    stations = [town.ride(one)[1] for one in ring]
    if kind == "empty":
        return word == "reserve" and name in stations
    return (word == "spare" and name in stations) or (word == "unkept" and name in ring)


class MendedTest(unittest.TestCase):
    def setUp(self):
        self.town = Town([("a", 2, 1), ("b", 3, 0), ("r1", 999999, 999999)],
                         [("r1", "a", "b", True), ("u", "a", "b", False), ("in", "street", "b", True),
                          ("out", "b", "street", True), ("r2", "r1", "a", True)])

    def test_nothing(self):
        self.assertEqual(rows(mended(self.town, [])), rows(self.town))
        self.assertEqual(rows(mended(Town.empty(), [])), ((), ()))

    def test_reserve(self):
        town = mended(self.town, [("reserve", "a")])
        self.assertEqual(rows(town), ((("a", 3, 2), *self.town.stations[1:]), self.town.rides))

    def test_spare(self):
        town = mended(self.town, [("spare", "b")])
        self.assertEqual(town.stations, (("a", 2, 1), ("b", 4, 0), ("r1", 999999, 999999)))
        self.assertEqual(town.rides, self.town.rides)

    def test_unkept(self):
        town = mended(self.town, [("unkept", "r1")])
        self.assertEqual(town.stations, self.town.stations)
        self.assertEqual(town.rides, (("r1", "a", "b", False), *self.town.rides[1:]))

    def test_an_unkept_ride_stays_unkept(self):
        self.assertEqual(rows(mended(self.town, [("unkept", "u")])), rows(self.town))
        twice = mended(self.town, [("unkept", "r1"), ("unkept", "r1")])
        self.assertEqual(rows(twice), rows(mended(self.town, [("unkept", "r1")])))

    def test_several_in_order_and_several_times(self):
        mends = [("reserve", "a"), ("spare", "a"), ("unkept", "r2"), ("reserve", "a"), ("reserve", "b"), ("spare", "a")]
        town = mended(self.town, mends)
        self.assertEqual(town.stations[:2], (("a", 6, 3), ("b", 4, 1)))
        self.assertEqual(town.ride("r2"), ("r2", "r1", "a", False))
        many = mended(self.town, [("reserve", "b")] * 500)
        self.assertEqual(many.stations[1], ("b", 503, 500))

    def test_unknown_stations(self):
        for word in ("reserve", "spare"):
            for name in ("x", "street", "u", ""):
                self.assertEqual(error_of(mended, self.town, [(word, name)]), ("UnknownStation", name))
            self.assertEqual(error_of(mended, Town.empty(), [(word, "a")]), ("UnknownStation", "a"))

    def test_unknown_rides(self):
        for name in ("x", "a", "street", ""):
            self.assertEqual(error_of(mended, self.town, [("unkept", name)]), ("UnknownRide", name))

    def test_rides_of_the_street(self):
        for name in ("in", "out"):
            self.assertEqual(error_of(mended, self.town, [("unkept", name)]), ("NotKept", name))
        self.assertEqual(error_of(mended, run(self.town, ["u"]), [("unkept", "u")]), ("NotKept", "u"))

    def test_docks_above_999999(self):
        for word in ("reserve", "spare"):
            self.assertEqual(error_of(mended, self.town, [(word, "r1")]), ("BadNumber", 1000000))
            near = Town([("a", 999998, 999998)], [])
            self.assertEqual(mended(near, [(word, "a")]).docks("a"), 999999)
            self.assertEqual(error_of(mended, near, [(word, "a")] * 2), ("BadNumber", 1000000))

    def test_the_first_mend_that_fails(self):
        bad = {("spare", "x"): ("UnknownStation", "x"), ("unkept", "y"): ("UnknownRide", "y"),
               ("unkept", "out"): ("NotKept", "out"), ("reserve", "r1"): ("BadNumber", 1000000)}
        for first, second in itertools.permutations(bad, 2):
            mends = [("spare", "a"), first, second, ("unkept", "r1")]
            self.assertEqual(error_of(mended, self.town, mends), bad[first])

    def test_arguments_stay(self):
        mends = [("reserve", "a"), ("unkept", "r1")]
        before = rows(self.town)
        town = mended(self.town, mends)
        self.assertEqual((mends, rows(self.town)), ([("reserve", "a"), ("unkept", "r1")], before))
        kept = rows(town)
        mends.clear()
        self.assertEqual(rows(town), kept)


class BreakingTest(unittest.TestCase):
    def test_examples(self):
        self.assertEqual(list(bad_rings(mended(dry(), [("reserve", "a")]))), [])
        self.assertEqual(list(bad_rings(mended(dry(), [("spare", "a")]))), [("empty", ["r1", "r2"])])
        self.assertEqual(list(bad_rings(mended(brim(), [("spare", "b")]))), [])
        self.assertEqual(list(bad_rings(mended(brim(), [("unkept", "r2")]))), [])
        self.assertEqual(list(bad_rings(mended(brim(), [("reserve", "b")]))), [("full", ["r1", "r2"])])
        self.assertEqual(list(bad_rings(mended(brim(), [("unkept", "r3")]))), [("full", ["r1", "r2"])])

    def test_a_mend_breaks_what_the_document_says_and_nothing_else(self):
        tried = 0
        for town in fair_towns(250, 171, most_passes=7):
            rings = list(bad_rings(town))
            for mend in mends_of(town):
                after = mended(town, [mend])
                self.assertTrue(is_fair(after))
                self.assertEqual(all_rings(after), [row for row in rings if not breaks(town, mend, *row)])
                tried += len(rings)
        self.assertGreater(tried, 500)

    def test_mends_against(self):
        for town in fair_towns(150, 172):
            for kind, ring in bad_rings(town):
                told = mends_against(town, kind, ring)
                self.assertEqual(sorted(told), sorted(mend for mend in mends_of(town) if breaks(town, mend, kind, ring)))

    def test_names_and_positions_stay(self):
        for town in random_towns(50, 173):
            after = mended(town, mends_of(town))
            self.assertEqual(names_of(after), names_of(town))
            self.assertEqual([station[0] for station in after.stations], [station[0] for station in town.stations])


if __name__ == "__main__":
    unittest.main()
