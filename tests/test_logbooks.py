"""Logbooks and the notes they hold ([58], [59])."""

import random
import unittest

from helper import dry, error_of, random_towns, rows
from ridesonce.logbooks import Logbook
from ridesonce.towns import Town


def withdrawn(log, *place):
    return error_of(log.withdraw, *place)


class LogbookTest(unittest.TestCase):
    def test_a_new_log(self):
        town = dry()
        log = Logbook(town)
        self.assertEqual((len(log), list(log), log.slips), (0, [], 0))
        self.assertIs(log.town, town)
        self.assertEqual(Logbook(town, slips=3).slips, 3)
        self.assertEqual(list(Logbook(Town.empty())), [])

    def test_slips(self):
        for slips in range(4):
            self.assertEqual(Logbook(dry(), slips=slips).slips, slips)
        for slips in (-1, 4, -10 ** 9, 10 ** 9):
            self.assertEqual(error_of(Logbook, dry(), slips=slips), ("BadNumber", slips))
        self.assertRaises(TypeError, Logbook, dry(), 1)

    def test_8_passes_and_9(self):
        rides = [(f"r{at}", "a", "b", True) for at in range(9)]
        self.assertIsNone(error_of(Logbook, Town([("a", 9, 0), ("b", 9, 0)], rides[:8])))
        self.assertEqual(error_of(Logbook, Town([("a", 9, 0), ("b", 9, 0)], rides)), ("TooLarge", 9))
        self.assertEqual(error_of(Logbook, Town([("a", 9, 0), ("b", 9, 0)], rides), slips=4), ("TooLarge", 9))
        unkept = [(*ride[:3], False) for ride in rides[:4]]
        self.assertIsNone(error_of(Logbook, Town([("a", 9, 0), ("b", 9, 0)], unkept)))
        self.assertEqual(error_of(Logbook, Town([("a", 9, 0), ("b", 9, 0)], unkept + rides[8:])), ("TooLarge", 9))

    def test_the_town_need_not_be_fair(self):
        self.assertIsNone(error_of(Logbook, dry().without(["r3"])))

    def test_the_town_cannot_be_assigned(self):
        log = Logbook(dry())
        self.assertRaises(AttributeError, setattr, log, "town", Town.empty())

    def test_the_bounds_of_a_small_town_are_those_of_passes_not_stations(self):
        log = Logbook(Town([(f"s{at}", 999999, 0) for at in range(12)], []))
        for moment in (1, 2, 3, 4):
            for at in range(12):
                log[moment, f"s{at}"] = 999999
        self.assertEqual(len(log), 48)


class WriteTest(unittest.TestCase):
    def setUp(self):
        self.log = Logbook(dry())

    def test_write_and_read(self):
        self.log[2, "b"] = 1
        self.log[1, "c"] = 0
        self.assertEqual((self.log[2, "b"], self.log[1, "c"]), (1, 0))
        self.assertEqual(list(self.log), [(1, "c", 0), (2, "b", 1)])

    def test_a_later_note_takes_the_place_of_an_earlier_one(self):
        self.log[2, "b"] = 1
        self.log[2, "a"] = 2
        self.log[2, "b"] = 2
        self.assertEqual((self.log[2, "b"], len(self.log)), (2, 2))
        self.assertEqual(list(self.log), [(2, "a", 2), (2, "b", 2)])
        self.log[2, "b"] = 2
        self.assertEqual(list(self.log), [(2, "a", 2), (2, "b", 2)])

    def test_every_moment_and_count(self):
        for moment in (1, 2, 3, 4):
            for station, docks, _ in dry().stations:
                for count in range(docks + 1):
                    self.log[moment, station] = count
                    self.assertEqual(self.log[moment, station], count)
        self.assertEqual(len(self.log), 12)

    def test_errors_in_their_order(self):
        for at, count, expected in (((0, "x"), 9, ("BadNumber", 0)), ((5, "x"), 9, ("BadNumber", 5)),
                                    ((-1, "a"), 1, ("BadNumber", -1)), ((10 ** 9, "a"), 1, ("BadNumber", 10 ** 9)),
                                    ((1, "x"), 9, ("UnknownStation", "x")), ((4, "street"), 0, ("UnknownStation", "street")),
                                    ((4, "r1"), 0, ("UnknownStation", "r1")), ((4, ""), 0, ("UnknownStation", "")),
                                    ((1, "a"), 3, ("BadNumber", 3)), ((4, "a"), -1, ("BadNumber", -1)), ((4, "a"), 2, None),
                                    ((1, "a"), 0, None)):
            log = Logbook(dry())
            log[3, "c"] = 2
            self.assertEqual(error_of(log.__setitem__, at, count), expected)
            self.assertEqual(list(log), sorted([(3, "c", 2)] + ([(*at, count)] if expected is None else [])))

    def test_an_error_leaves_the_earlier_note(self):
        self.log[1, "a"] = 1
        self.assertEqual(error_of(self.log.__setitem__, (1, "a"), 3), ("BadNumber", 3))
        self.assertEqual(list(self.log), [(1, "a", 1)])


class ReadTest(unittest.TestCase):
    def setUp(self):
        self.log = Logbook(dry())
        self.log[1, "a"] = 0
        self.log[4, "c"] = 2

    def test_no_note(self):
        for place in ((1, "b"), (4, "a"), (2, "a"), (0, "a"), (5, "a"), (-1, "c"), (1, "x"), (1, "street"), (1, ""), (9, "x")):
            self.assertEqual(error_of(self.log.__getitem__, place), ("NoNote",))
            self.assertIs(place in self.log, False)
            self.assertEqual(withdrawn(self.log, *place), ("NoNote",))
        self.assertEqual(len(self.log), 2)

    def test_contains(self):
        self.assertIs((1, "a") in self.log, True)
        self.assertIs((4, "c") in self.log, True)

    def test_withdraw(self):
        self.assertIsNone(self.log.withdraw(1, "a"))
        self.assertEqual((list(self.log), len(self.log), (1, "a") in self.log), ([(4, "c", 2)], 1, False))
        self.assertEqual(error_of(self.log.__getitem__, (1, "a")), ("NoNote",))
        self.assertEqual(withdrawn(self.log, 1, "a"), ("NoNote",))
        self.log[1, "a"] = 2
        self.assertEqual(list(self.log), [(1, "a", 2), (4, "c", 2)])
        self.log.withdraw(4, "c")
        self.log.withdraw(1, "a")
        self.assertEqual(list(self.log), [])

    def test_iterating_by_moment_then_in_town_order(self):
        town = Town([("z", 2, 1), ("a", 2, 1), ("m", 2, 1)], [])
        chance = random.Random(371)
        places = [(moment, name) for moment in (1, 2, 3, 4) for name in "zam"]
        for _ in range(20):
            log = Logbook(town)
            for place in chance.sample(places, 12):
                log[place] = 1
            self.assertEqual(list(log), [(*place, 1) for place in places])
            for place in chance.sample(places, 5):
                log.withdraw(*place)
            self.assertEqual(list(log), [(*place, 1) for place in places if place in log])
            self.assertEqual(len(log), 7)

    def test_kinds(self):
        for note in self.log:
            self.assertIs(type(note), tuple)

    def test_iterating_while_notes_are_written(self):
        seen = []
        for note in self.log:
            seen.append(note)
            self.log[2, "b"] = 1
        self.assertEqual(seen, [(1, "a", 0), (4, "c", 2)])

    def test_each_method_stands_in_the_class(self):
        names = {"__init__", "__setitem__", "__getitem__", "__contains__", "__len__", "__iter__", "withdraw"}
        self.assertLessEqual(names, set(vars(Logbook)))

    def test_like_a_dict(self):
        chance = random.Random(372)
        for town in random_towns(60, 373):
            log, notes = Logbook(town), {}
            for _ in range(30 if town.stations else 0):
                station, docks, _ = chance.choice(town.stations)
                place = (chance.randint(1, 4), station)
                if chance.random() < 0.7:
                    log[place] = notes[place] = chance.randint(0, docks)
                else:
                    self.assertEqual(withdrawn(log, *place), None if place in notes else ("NoNote",))
                    notes.pop(place, None)
                self.assertEqual({note[:2]: note[2] for note in log}, notes)
            self.assertEqual(rows(log.town), rows(town))


if __name__ == "__main__":
    unittest.main()
