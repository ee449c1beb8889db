"""Where to look next, and which notes cannot all be right ([62])."""

import collections
import random
import time
import unittest

from helper import SECONDS, brim, dry, error_of, fair_towns, names_of, random_towns, rows
from ridesonce.logbooks import Logbook
from ridesonce.looks import best_look, clash
from ridesonce.towns import Town
from ridesonce.worlds import possible
from seen import all_worlds, log_of, random_notes

LIMITS = {"most_rides": 4, "most_passes": 5}


def sample_logs(number, seed, most):
    """Towns with notes and slips."""
    chance = random.Random(seed)
    towns = random_towns(number, seed, **LIMITS) + fair_towns(number, seed + 1, **LIMITS) + [dry(), brim(), Town.empty()]
    return [(town, random_notes(chance, town, most), chance.choice([0, 0, 1, 2, 3])) for town in towns]


class BestLookTest(unittest.TestCase):
    def test_example(self):
        log = log_of(dry(), [(1, "c", 0), (2, "c", 1)])
        self.assertEqual(best_look(log, 2), ("a", 2))

    def test_the_least_worst(self):
        # In six standings c has a bike in three, while a has none in four and b none in five.
        log = Logbook(dry())
        self.assertEqual(best_look(log, 1), ("c", 3))
        self.assertEqual(len(possible(log, 1)), 6)

    def test_the_first_in_town_order(self):
        rides = [("r1", "z", "b", True)]
        self.assertEqual(best_look(Logbook(Town([("z", 2, 1), ("b", 2, 0)], rides)), 1), ("z", 1))
        self.assertEqual(best_look(Logbook(Town([("b", 2, 0), ("z", 2, 1)], rides)), 1), ("b", 1))
        self.assertEqual(best_look(Logbook(Town([("n", 1, 0), ("b", 2, 0), ("z", 2, 1)], rides)), 1), ("b", 1))

    def test_none(self):
        self.assertIsNone(best_look(Logbook(Town.empty()), 1))
        self.assertIsNone(best_look(log_of(dry(), [(1, "c", 0), (2, "a", 2)]), 1))
        self.assertEqual(best_look(Logbook(Town([("n", 1, 0)], [])), 4), ("n", 1))

    def test_moments(self):
        for moment in (0, 5, -3):
            for log in (Logbook(dry()), Logbook(Town.empty()), log_of(dry(), [(1, "c", 0), (2, "a", 2)])):
                self.assertEqual(error_of(best_look, log, moment), ("BadNumber", moment))

    def test_against_all_worlds(self):
        found = {}
        for town, notes, slips in sample_logs(60, 401, 5):
            worlds = all_worlds(town, notes, slips)
            for moment in (1, 2, 3, 4):
                states = {world[moment - 1] for world in worlds}
                worsts = [max(collections.Counter(state[0][at] for state in states).values())
                          for at in range(len(town.stations)) if states]
                expected = (town.stations[worsts.index(min(worsts))][0], min(worsts)) if worsts else None
                self.assertEqual(best_look(log_of(town, notes, slips=slips), moment), expected)
                found[expected] = True
        self.assertGreater(len(found), 10)

    def test_kind(self):
        self.assertIs(type(best_look(Logbook(dry()), 1)), tuple)


class ClashTest(unittest.TestCase):
    def fits(self, town, notes, slips):
        return all_worlds(town, notes, slips) != []

    def check(self, town, notes, slips):
        log = log_of(town, notes, slips=slips)
        found = clash(log)
        self.assertIs(type(found), list)
        self.assertEqual(found == [], self.fits(town, notes, slips))
        if found:
            self.assertEqual([note for note in log if note in found], found)
            self.assertFalse(self.fits(town, found, slips))
            for note in found:
                self.assertTrue(self.fits(town, [other for other in found if other != note], slips))
        return found

    def test_no_clash(self):
        for log in (Logbook(dry()), Logbook(Town.empty()), log_of(dry(), [(1, "c", 0), (2, "c", 1)])):
            self.assertEqual(clash(log), [])

    def test_one_note_alone(self):
        town = Town([("a", 3, 1), ("b", 3, 0)], [("r1", "a", "b", True)])
        self.assertEqual(self.check(town, [(1, "b", 1), (3, "a", 3), (4, "a", 0)], 0), [(3, "a", 3)])

    def test_two_notes(self):
        town = Town([("a", 3, 1), ("b", 3, 0)], [("r1", "a", "b", True)])
        notes = [(4, "b", 0), (2, "b", 1)]
        self.assertEqual(self.check(town, notes, 0), [(2, "b", 1), (4, "b", 0)])
        self.assertEqual(self.check(town, [*notes, (1, "a", 1), (3, "a", 0)], 0)[1:], [(4, "b", 0)])

    def test_slips(self):
        town = Town([("a", 3, 0), ("b", 3, 0)], [])
        notes = [(moment, name, 1) for moment in (4, 3, 2, 1) for name in "ba"][:4]
        for slips in range(4):
            self.assertEqual(len(self.check(town, notes, slips)), slips + 1)
        self.assertEqual(self.check(town, notes[:3], 3), [])

    def test_against_all_worlds(self):
        lengths = {}
        for town, notes, slips in sample_logs(100, 403, 8):
            lengths[len(self.check(town, notes, slips))] = True
        self.assertGreaterEqual(len(lengths), 4)

    def test_the_log_stays(self):
        town = Town([("a", 3, 0), ("b", 3, 0)], [])
        log = log_of(town, [(2, "b", 1), (1, "a", 2)])
        before = (list(log), rows(town))
        clash(log).clear()
        best_look(log, 1)
        self.assertEqual((list(log), rows(log.town)), before)
        self.assertEqual(len(clash(log)), 1)


class LargestTest(unittest.TestCase):
    def test_8_passes_12_stations_and_48_notes(self):
        start = time.perf_counter()
        stations = [(f"s{at}", 999999, 500000) for at in range(12)]
        rides = [(f"r{at}", f"s{at}", f"s{at + 1}", True) for at in range(8)]
        town = Town(stations, rides)
        self.assertEqual(best_look(Logbook(town), 2), ("s0", 128))
        notes = [(moment, name, 499999) for moment in (1, 2, 3, 4) for name, _, _ in stations]
        for slips in (0, 3):
            log = log_of(town, notes, slips=slips)
            found = clash(log)
            self.assertEqual([note for note in log if note in found], found)
            self.assertGreater(len(found), slips)
            self.assertNotEqual(possible(log_of(town, found[1:], slips=slips), 1), [])
            self.assertEqual(possible(log_of(town, found, slips=slips), 1), [])
        self.assertEqual(len(names_of(town)), 8)
        self.assertLess(time.perf_counter() - start, SECONDS)


if __name__ == "__main__":
    unittest.main()
