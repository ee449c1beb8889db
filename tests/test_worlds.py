"""What may have happened between the notes of a log ([60], [61], [63])."""

import random
import time
import unittest

from helper import (SECONDS, brim, dry, end_numbers, error_of, fair_towns, left_lists, names_of, random_towns,
                    reached_standings, ring_towns, state_after)
from ridesonce.leftover import LeftFamily
from ridesonce.logbooks import Logbook
from ridesonce.standings import standings
from ridesonce.towns import Town
from ridesonce.worlds import ask, possible
from seen import all_worlds, log_of, random_notes, standings_at, state_of_rider, wrong_at

RIDERS = ["r1", "r2", "r3", "r4"]


def on_road():
    """A rider who comes from the street, one who has already taken a bike, and one who may take one."""
    rides = [("u", "a", "b", False), ("v", "street", "b", True), ("w", "b", "street", True)]
    return Town([("a", 2, 1), ("b", 1, 0)], rides)


class PossibleTest(unittest.TestCase):
    def test_example(self):
        log = log_of(dry(), [(1, "c", 0), (2, "c", 1)])
        self.assertEqual(possible(log, 2), [(["r3", "r4"], []), (RIDERS, [])])
        self.assertEqual(possible(log, 2, stopped=True), [(["r3", "r4"], []), (RIDERS, [])])
        self.assertEqual(possible(log, 1), [(["r3"], []), (["r1", "r3"], []), (["r1", "r2", "r3"], [])])
        self.assertEqual(possible(log, 1, stopped=True), [])
        self.assertEqual(possible(log, 4), possible(log, 2))

    def test_a_log_without_notes_tells_nothing(self):
        for town in [Town.empty(), dry(), brim(), on_road(), *random_towns(30, 381)]:
            for moment in (1, 2, 3, 4):
                self.assertEqual(possible(Logbook(town), moment), list(standings(town)))

    def test_the_empty_town(self):
        self.assertEqual(possible(Logbook(Town.empty()), 3), [([], [])])
        self.assertEqual(possible(Logbook(Town.empty()), 3, stopped=True), [([], [])])

    def test_later_notes_tell_of_earlier_moments(self):
        log = log_of(dry(), [(3, "b", 1)])
        self.assertEqual(possible(log, 3), [(["r1", "r3"], [])])
        self.assertEqual(possible(log, 1), [([], []), (["r3"], []), (["r1", "r3"], [])])
        self.assertEqual(possible(log, 4), [(["r1", "r3"], []), (["r1", "r2", "r3"], []), (RIDERS, [])])

    def test_slips(self):
        notes = [(1, "b", 1), (2, "b", 0), (2, "a", 2), (3, "c", 1), (3, "a", 2)]
        told = [len(possible(log_of(dry(), notes, slips=slips), 2)) for slips in range(4)]
        self.assertEqual(told[0], 0)
        self.assertEqual(told, sorted(told))
        log = log_of(dry(), [(1, "b", 1)], slips=1)
        self.assertEqual(possible(log, 1), list(standings(dry())))
        self.assertEqual(possible(log_of(dry(), [(1, "b", 1), (1, "a", 2)], slips=1), 1), [(["r1", "r3"], [])])

    def test_one_slip_is_for_all_moments_together(self):
        for first, second in ((1, 2), (1, 4), (3, 4), (2, 2)):
            notes = [(first, "a", 2), (second, "b", 2)]
            for slips, fits in ((1, False), (2, True)):
                for moment in (1, 2, 3, 4):
                    self.assertEqual(possible(log_of(dry(), notes, slips=slips), moment) != [], fits)

    def test_moments(self):
        for moment in (0, 5, -1, 10 ** 9):
            self.assertEqual(error_of(possible, Logbook(dry()), moment), ("BadNumber", moment))
            self.assertEqual(error_of(possible, Logbook(Town.empty()), moment, stopped=True), ("BadNumber", moment))
        self.assertRaises(TypeError, possible, Logbook(dry()), 1, True)

    def test_riders_on_the_road(self):
        log = log_of(on_road(), [(2, "a", 0), (2, "b", 0)])
        found = possible(log, 2)
        self.assertEqual(found, [([], ["u"]), (["u", "w"], []), (["v", "w"], ["u"])])

    def test_against_all_worlds(self):
        chance, empty = random.Random(382), 0
        limits = {"most_rides": 4, "most_passes": 5}
        for town in random_towns(60, 383, **limits) + fair_towns(60, 384, **limits) + [dry(), brim(), on_road()]:
            slips = chance.choice([0, 0, 1, 2, 3])
            notes = random_notes(chance, town, 6)
            worlds = all_worlds(town, notes, slips)
            log = log_of(town, notes, slips=slips)
            for moment in (1, 2, 3, 4):
                for stopped in (False, True):
                    expected = standings_at(town, worlds, moment, stopped=stopped)
                    self.assertEqual(possible(log, moment, stopped=stopped), expected)
                    empty += not expected
        self.assertGreater(empty, 50)

    def test_the_order_of_writing_does_not_count(self):
        chance = random.Random(385)
        for town in random_towns(40, 386):
            notes = random_notes(chance, town, 6)
            log = Logbook(town, slips=1)
            for moment, station, count in chance.sample(notes, len(notes)):
                log[moment, station] = town.docks(station) - count
            for moment, station, count in notes[::-1]:
                log[moment, station] = count
            for moment in (1, 2, 3, 4):
                self.assertEqual(possible(log, moment), possible(log_of(town, notes, slips=1), moment))

    def test_a_new_note_adds_nothing_and_a_withdrawn_one_takes_nothing_away(self):
        chance = random.Random(387)
        for town in random_towns(60, 388):
            log = Logbook(town, slips=chance.randint(0, 1))
            for moment, station, count in random_notes(chance, town, 5):
                for stopped in (False, True):
                    before = possible(log, 3, stopped=stopped)
                    log[moment, station] = count
                    after = possible(log, 3, stopped=stopped)
                    self.assertTrue(all(row in before for row in after))
                    log.withdraw(moment, station)
                    self.assertEqual(possible(log, 3, stopped=stopped), before)
                log[moment, station] = count

    def test_answers_are_new(self):
        log = Logbook(dry())
        first = possible(log, 1)
        for done, road in first:
            done.append("x")
            road.append("x")
        first.clear()
        self.assertEqual(possible(log, 1), list(standings(dry())))


class StopTest(unittest.TestCase):
    def check(self, town, notes):
        """At a stop there is one standing for each list that can be left."""
        found = possible(log_of(town, notes), 4, stopped=True)
        left = [tuple(name for name in names_of(town) if name not in done) for done, road in found]
        self.assertEqual(sorted(left), sorted(LeftFamily(town)))
        self.assertEqual(sorted(left), left_lists(town))
        self.assertTrue(all(road == [] for _, road in found))

    def test_docks_tell_nothing_at_a_stop(self):
        chance = random.Random(389)
        for town in fair_towns(60, 390) + ring_towns(30, 391) + [dry(), brim(), Town.empty()]:
            ends = [(4, name, number) for name, number in end_numbers(town).items()]
            for many in (0, len(ends) // 2, len(ends)):
                self.check(town, chance.sample(ends, many))

    def test_another_number_leaves_no_stop(self):
        for town in fair_towns(60, 392):
            for name, number in end_numbers(town).items():
                other = number - 1 if number > 0 else number + 1
                if other <= town.docks(name):
                    self.assertEqual(possible(log_of(town, [(4, name, other)]), 4, stopped=True), [])
                    self.assertEqual(possible(log_of(town, [(1, name, other)]), 1, stopped=True), [])


class AskTest(unittest.TestCase):
    def walked(self, town, notes, slips, world, moment):
        """The state of a fitting world at the moment, walked step by step."""
        self.assertEqual([type(order) for order in world], [list] * 4)
        order, found, wrong = [], None, 0
        for at in (1, 2, 3, 4):
            order = order + world[at - 1]
            state = state_after(town, order)
            self.assertIsNotNone(state)
            wrong += wrong_at(town, state, at, notes)
            found = state if at == moment else found
        self.assertLessEqual(wrong, slips)
        return found

    def check(self, town, notes, slips, name, moment):
        answer = ask(log_of(town, notes, slips=slips), name, moment)
        if answer[0] == "open":
            self.assertEqual(len(answer), 3)
            states = [state_of_rider(town, self.walked(town, notes, slips, world, moment), name) for world in answer[1:]]
            self.assertNotEqual(*states)
        return answer

    def test_example(self):
        log = log_of(dry(), [(1, "c", 0), (2, "c", 1)])
        self.assertEqual(ask(log, "r3", 1), ("sure", "done"))
        self.assertEqual(ask(log, "r4", 1), ("sure", "waiting"))
        self.assertEqual(ask(log, "r4", 2), ("sure", "done"))
        self.assertEqual(self.check(dry(), [(1, "c", 0), (2, "c", 1)], 0, "r1", 1)[0], "open")

    def test_no_world(self):
        log = log_of(dry(), [(1, "c", 0), (2, "a", 2)])
        for moment in (1, 2, 3, 4):
            self.assertEqual(ask(log, "r1", moment), ("none",))

    def test_the_last_moments(self):
        log = log_of(dry(), [(4, "c", 1), (4, "a", 0), (3, "a", 1)])
        self.assertEqual(ask(log, "r4", 4), ("sure", "done"))
        self.assertEqual(ask(log, "r4", 3), ("sure", "waiting"))
        self.assertEqual(self.check(dry(), [(4, "c", 1), (3, "a", 1)], 0, "r1", 3)[0], "open")

    def test_riders_on_the_road(self):
        notes = [(2, "a", 0), (2, "b", 0)]
        self.assertEqual(self.check(on_road(), notes, 0, "u", 2)[0], "open")
        log = log_of(on_road(), [(1, "a", 0), (1, "b", 1), (2, "b", 1)])
        self.assertEqual(ask(log_of(on_road(), [(1, "a", 0), (3, "b", 0), (4, "b", 0)]), "w", 4)[0], "open")
        self.assertEqual(ask(log, "v", 3)[0], "open")
        # Who comes from the street waits until done.
        town = Town([("b", 1, 0)], [("v", "street", "b", True)])
        self.assertEqual(ask(log_of(town, [(1, "b", 0)]), "v", 1), ("sure", "waiting"))
        self.assertEqual(ask(log_of(town, [(1, "b", 1)]), "v", 1), ("sure", "done"))
        town = Town([("a", 1, 1), ("b", 1, 1)], [("u", "a", "b", False)])
        self.assertEqual(ask(log_of(town, [(2, "a", 0)]), "u", 2), ("sure", "road"))
        self.assertEqual(ask(log_of(town, [(2, "a", 0)]), "u", 4), ("sure", "road"))
        self.assertEqual(ask(log_of(town, [(2, "a", 1)]), "u", 1), ("sure", "waiting"))

    def test_against_all_worlds(self):
        chance, seen = random.Random(393), {}
        limits = {"most_rides": 4, "most_passes": 5}
        for town in random_towns(80, 394, **limits) + fair_towns(80, 395, **limits) + [dry(), brim(), on_road()]:
            slips = chance.choice([0, 0, 1, 2, 3])
            notes = random_notes(chance, town, 6)
            worlds = all_worlds(town, notes, slips)
            for name in names_of(town):
                for moment in (1, 2, 3, 4):
                    states = sorted({state_of_rider(town, world[moment - 1], name) for world in worlds})
                    answer = self.check(town, notes, slips, name, moment)
                    if len(states) < 2:
                        self.assertEqual(answer, ("sure", *states) if states else ("none",))
                    self.assertEqual(answer[0] == "open", len(states) > 1)
                    seen[answer if answer[0] == "sure" else answer[0]] = True
        self.assertGreaterEqual(len(seen), 4)

    def test_errors_in_their_order(self):
        log = log_of(dry(), [(1, "c", 0), (2, "a", 2)])
        for name, moment, expected in (("x", 0, ("UnknownRide", "x")), ("a", 1, ("UnknownRide", "a")),
                                       ("street", 9, ("UnknownRide", "street")), ("r1", 0, ("BadNumber", 0)),
                                       ("r1", 5, ("BadNumber", 5)), ("r1", -1, ("BadNumber", -1)), ("r1", 4, None)):
            self.assertEqual(error_of(ask, log, name, moment), expected)

    def test_worlds_are_new(self):
        first = ask(Logbook(dry()), "r1", 2)
        lists = [part for world in first[1:] for part in (world, *world)]
        self.assertEqual(len({id(part) for part in lists}), 10)
        for part in lists:
            part.append("x")
        self.assertEqual(self.check(dry(), [], 0, "r1", 2)[0], "open")

    def test_8_passes(self):
        start = time.perf_counter()
        rides = [(f"r{at}", "abcd"[at % 4], "bcda"[at % 4], True) for at in range(8)]
        town = Town([(name, 999999, 500000) for name in "abcd"], rides)
        notes = [(moment, name, 500000) for moment in (1, 2, 3, 4) for name in "abcd"]
        for slips in (0, 3):
            log = log_of(town, notes, slips=slips)
            found = possible(log, 2)
            for done, road in found:
                self.assertEqual(road, [])
            self.assertEqual(([], []) in found, True)
            self.assertEqual(self.check(town, notes, slips, "r3", 4)[0], "open")
        self.assertEqual(len(possible(Logbook(town), 2)), len(reached_standings(town)))
        unkept = Town(town.stations, [(*ride[:3], False) for ride in rides[:4]])
        self.assertEqual(len(possible(Logbook(unkept), 1)), 81)
        self.assertEqual(self.check(unkept, notes, 3, "r0", 1)[0], "open")
        self.assertLess(time.perf_counter() - start, SECONDS)


if __name__ == "__main__":
    unittest.main()
