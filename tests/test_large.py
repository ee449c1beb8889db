"""12 stations and 24 rides, many docks and bikes: all that needs no small town answers quickly ([7])."""

import time
import unittest

from helper import (SECONDS, error_of, inside, is_fair, is_ring, large_town, left_after, names_of, rows,
                    shows_a_ring, standing_of, state_after)
from ridesonce.ahead import ahead, call_off
from ridesonce.boards import board
from ridesonce.bookverdicts import apart, judge_book, strike
from ridesonce.chances import chance, mean_left, order_counts
from ridesonce.cheapest import cheapest_mends, judge_mends
from ridesonce.crowds import crowd_ends, crowd_town
from ridesonce.desks import Desk
from ridesonce.districts import District, cut_town
from ridesonce.eitherway import either, turn
from ridesonce.ends import ends
from ridesonce.every import every, judge_every
from ridesonce.leastcrowd import least_crowd
from ridesonce.leftover import LeftFamily
from ridesonce.logbooks import Logbook
from ridesonce.lots import dead_lots, lots
from ridesonce.mends import mended
from ridesonce.notation import read_town, write_town
from ridesonce.notes import answer_of, note_of
from ridesonce.rings import bad_rings
from ridesonce.rulebooks import RuleBook, let_rides
from ridesonce.rules import EmptiestGoal, FullestStart, KeptFirst, LastBooked, Rule
from ridesonce.runner import Runner
from ridesonce.senders import Wise
from ridesonce.some import some, wise_rides
from ridesonce.sorts import always, bike_range, free_pairs
from ridesonce.standings import before_pairs, can_stand, count_standings, standings
from ridesonce.steps import able, is_stopped, run
from ridesonce.sure import sure_riders, why
from ridesonce.surroundings import placed
from ridesonce.towns import Town
from ridesonce.van import van_now, van_number
from ridesonce.worst import judge_worst, worst


def two_stations():
    """24 unkept rides to and fro, with a single bike."""
    rides = [(f"r{at}", "a" if at % 2 else "b", "b" if at % 2 else "a", False) for at in range(24)]
    return Town([("a", 999999, 1), ("b", 999999, 0)], rides)


def full_tangle(kept):
    """12 stations that are full in the end, each with a ride to the two behind it."""
    stations = [(f"s{at}", 999999, 999999) for at in range(12)]
    rides = [(f"r{at}", f"s{at % 12}", f"s{(at + 1 + at // 12) % 12}", kept) for at in range(24)]
    return Town(stations, rides)


def long_rows():
    """Twelve stations in a row that are empty in the end; each rider goes one or two further."""
    rides = [(f"r{at}", f"s{at}", f"s{at + 1}", at % 2 == 0) for at in range(11)]
    rides += [(f"q{at}", f"s{at}", f"s{at + 2}", True) for at in range(10)]
    rides += [(f"p{at}", "s11", "street", True) for at in range(2)] + [("o", "s10", "street", True)]
    net = {f"s{at}": 0 for at in range(12)}
    for _, start, goal, _ in rides:
        net[start] -= 1
        net[goal] = net.get(goal, 0) + 1
    return Town([(f"s{at}", 999999, max(0, -net[f"s{at}"])) for at in range(12)], rides)


class LargeTest(unittest.TestCase):
    def setUp(self):
        self.towns = [large_town(), two_stations(), full_tangle(True), full_tangle(False), long_rows()]
        self.start = time.perf_counter()

    def tearDown(self):
        self.assertLess(time.perf_counter() - self.start, SECONDS)

    def test_samples(self):
        for town in self.towns:
            self.assertEqual(len(town.rides), 24)
            self.assertTrue(is_fair(town))
            self.assertGreater(town.passes(), 8)
        self.assertEqual(len(large_town().stations), 12)

    def test_small_questions(self):
        for town in self.towns:
            self.assertEqual(rows(read_town(write_town(town))), rows(town))
            self.assertEqual(len(ends(town)), len(town.stations))
            self.assertEqual(sorted(name for lot in lots(town) for name in lot), sorted(names_of(town)))

    def test_what_needs_a_small_town_raises_too_large(self):
        for town in self.towns:
            for call in (count_standings, LeftFamily, before_pairs, order_counts, chance, mean_left, least_crowd, ahead,
                         call_off, van_number, Logbook, lambda town: judge_book(town, RuleBook("")),
                         lambda town: strike(town, RuleBook("")), lambda town: apart(town, RuleBook(""), RuleBook("")),
                         lambda town: cheapest_mends(town, {}), lambda town: judge_mends(town, {}, ("yes",))):
                self.assertEqual(error_of(call, town), ("TooLarge", town.passes()))
            for made in (bad_rings(town), standings(town)):
                self.assertEqual(error_of(list, made), ("TooLarge", town.passes()))

    def test_every(self):
        words = []
        for town in self.towns:
            told = every(town)
            words.append(told[0])
            self.assertTrue(judge_every(town, told))
            if told[0] == "no":
                self.assertTrue(is_ring(town, told[1], told[2]))
                self.assertTrue(set(told[2]) <= set(left_after(town, told[3])))
        self.assertEqual(words, ["no", "yes", "no", "yes", "yes"])

    def test_length_of_long_rows(self):
        self.assertEqual(every(long_rows())[1]["s11"], 11)

    def test_some(self):
        words = []
        for town in self.towns:
            told = some(town)
            words.append(told[0])
            if told[0] == "yes":
                self.assertEqual(left_after(town, told[1]), [])
            else:
                self.assertEqual(told[1:], dead_lots(town)[0])
        self.assertEqual(words, ["yes", "yes", "no", "yes", "yes"])

    def test_wise_rides(self):
        for town in self.towns:
            for name in wise_rides(town):
                self.assertEqual(some(run(town, [name]))[0], "yes")

    def test_sure(self):
        for town in self.towns:
            surely = sure_riders(town)
            for name in names_of(town):
                told = why(town, name)
                self.assertEqual(told[0] == "sure", name in surely)
                if told[0] == "unsure":
                    self.assertTrue(is_ring(town, told[1], told[2]))
                    self.assertTrue(set(told[2]) <= set(left_after(town, told[3])))
        self.assertEqual(len(inside(large_town(), "empty") + inside(large_town(), "full")), 12)
        self.assertEqual(len(sure_riders(large_town())), 12)

    def test_rules_and_runner(self):
        for town in self.towns:
            for rule in (Rule(), LastBooked(), FullestStart(), EmptiestGoal(), KeptFirst()):
                runner = Runner(town)
                self.assertEqual(runner.follow(rule), len(runner))
                self.assertTrue(is_stopped(runner.town))
                self.assertEqual(runner.order, rule(town)[0])
                self.assertEqual(able(runner.town), [])

    def test_wise_senders(self):
        for town in self.towns:
            order, last = Wise(KeptFirst())(town)
            self.assertEqual(last.rides == (), dead_lots(town) == [])
            self.assertEqual(order == [], dead_lots(town) != [])

    def test_can_stand(self):
        words = []
        for town in self.towns:
            order = some(town)[1] if some(town)[0] == "yes" else []
            done, road = standing_of(town, state_after(town, order[:len(order) // 2]))
            told = can_stand(town, done, road)
            self.assertEqual(told[0], "yes")
            self.assertEqual(standing_of(town, state_after(town, told[1])), (done, road))
            words.append(can_stand(town, names_of(town), [])[0])
        self.assertEqual(words, ["yes", "yes", "no", "yes", "yes"])

    def test_either(self):
        for town in self.towns:
            told = either(town, names_of(town))
            self.assertEqual(told[0] == "no", dead_lots(town) != [])
            if told[0] == "yes":
                self.assertEqual(left_after(turn(town, told[1]), told[2]), [])

    def test_worst(self):
        numbers = []
        for town in self.towns:
            self.assertTrue(judge_worst(town, worst(town)))
            numbers.append(worst(town)[0])
        self.assertEqual(numbers, [12, 0, 24, 0, 0])

    def test_crowds(self):
        for town in self.towns:
            one = {name: 1 for name in names_of(town)}
            self.assertEqual(crowd_ends(town, one), ends(town))
            self.assertEqual(len(crowd_town(town, one).rides), 24)
            self.assertEqual(error_of(crowd_town, town, {**one, names_of(town)[0]: 10 ** 9}), ("TooLarge", 10 ** 9 + 23))

    def test_sorts(self):
        words = []
        for town in self.towns:
            told = always(town)
            words.append(told[0])
            if told[0] == "no":
                self.assertTrue(shows_a_ring(town, *told[1:]))
                self.assertEqual(free_pairs(town), [])
            self.assertEqual(bike_range(town) is None, rows(town) != rows(full_tangle(True)))
        self.assertEqual(words, ["no", "yes", "no", "yes", "yes"])
        self.assertIn(("s11", "s0"), free_pairs(full_tangle(False)))
        self.assertNotIn(("s11", "s0"), free_pairs(long_rows()))

    def test_van_now(self):
        numbers = []
        for town in self.towns:
            prices = {(word, station[0]): 7 for station in town.stations for word in ("bring", "take")}
            price, deeds = van_now(town, prices)
            self.assertEqual(price, 7 * len(dead_lots(town)))
            after = town
            for word, name in deeds:
                after = after.with_bikes(name, after.bikes(name) + (1 if word == "bring" else -1))
            self.assertEqual(dead_lots(after), [])
            numbers.append(len(deeds))
        self.assertEqual(numbers, [0, 0, 1, 0, 0])

    def test_answer_of(self):
        for town in self.towns:
            self.assertEqual(answer_of(town), ("fair", every(town)[0] == "yes", some(town)[0] == "yes"))

    def test_districts(self):
        for town in self.towns:
            whole = District(list(town.stations), [], list(town.rides))
            self.assertEqual(note_of(whole).answer(), answer_of(town))
            # As many stations on the border as there may be: the answer comes when they are closed again.
            border = [station[0] for station in town.stations[-6:]]
            part = District(list(town.stations[:-6]), border, list(town.rides))
            self.assertEqual(rows(placed(part, (list(town.stations[-6:]), [], []))), rows(town))
            note = note_of(part)
            for row in town.stations[-6:][::-1]:
                part, note = part.close(*row), note.close(*row)
                self.assertEqual(note_of(part).form, note.form)
            self.assertEqual(note.answer(), answer_of(town))
            self.assertEqual(sorted(part.as_town().rides), sorted(town.rides))

    def test_cut_towns(self):
        for town in self.towns:
            cuts = 0
            for many in range(25):
                names = names_of(town)[:many]
                told = error_of(cut_town, town, names)
                if told is None:
                    cuts += 1
                    first, second, between = cut_town(town, names)
                    note, joined = note_of(first) + note_of(second), first + second
                    for row in between:
                        note, joined = note.close(*row), joined.close(*row)
                    self.assertEqual((note.answer(), answer_of(joined.as_town())), (answer_of(town),) * 2)
                else:
                    self.assertEqual(told[0], "TooLarge")
                    self.assertGreater(told[1], 6)
            self.assertGreater(cuts, 6)

    def test_notes_of_many_districts(self):
        stations = [(f"s{at}", 999999, 999999 * (at % 2)) for at in range(12)]
        border = ["p", "q", "b", "a", "d", "c"]
        rides = [(f"r{at}", border[at % 6], f"s{at % 12}", at % 4 < 2) for at in range(12)]
        rides += [(f"q{at}", f"s{at % 12}", border[at * 5 % 6], True) for at in range(12)]
        note = many = note_of(District(stations, border, rides))
        self.assertEqual(note.form[0], "fair")
        for _ in range(100):
            many = many + note
        self.assertEqual(many.form, note.form)
        for name in border:
            many = many.close(name, 999999, 999999)
        self.assertEqual(many.answer()[0], "fair")

    def test_books(self):
        for town in self.towns:
            first = town.stations[0][0]
            text = "".join(f"let {name} when bikes {first} >= 0 and waits {name}\n" for name in names_of(town))
            condition = " and ".join([f"free {first} <= 999999"] * 12)
            for book in (RuleBook(text), RuleBook(f"let * when {condition}\n" * 40), RuleBook(text) & RuleBook("let *\n")):
                self.assertEqual(let_rides(town, book), able(town))
                self.assertTrue(all(book.lets(town, name) for name in names_of(town)))

    def test_desks(self):
        for town in self.towns:
            desk = Desk.replay(write_town(town).replace("ride ", "book ").splitlines())
            self.assertEqual(rows(desk.town), rows(town))
            word = desk.verdict()
            self.assertEqual(word, "sure" if every(town)[0] == "yes" else "open" if some(town)[0] == "yes" else "dead")
            for guard in ("wise", "sure"):
                error_of(desk.set_guard, guard)
            for name in Wise(Rule())(town)[0]:
                desk.go(name)
            self.assertEqual(desk.riders, {} if word != "dead" else dict.fromkeys(names_of(town), "waiting"))
            self.assertEqual(desk.log[len(town.stations) + 24:], [f"go {name}" for name in Wise(Rule())(town)[0]])
            desk.set_guard("free")
            while error_of(desk.undo) is None:
                pass
            self.assertEqual(rows(desk.town), ((), ()))

    def test_boards(self):
        for town in self.towns:
            self.assertEqual([line.split()[0] for line in board(town).splitlines()], [row[0] for row in town.stations])

    def test_mended(self):
        for town in self.towns:
            after = mended(town, [("unkept", ride[0]) for ride in town.rides if "street" not in ride[1:3]])
            self.assertEqual([ride[3] for ride in after.rides], ["street" in ride[1:3] for ride in town.rides])
            self.assertEqual(error_of(mended, town, [("spare", town.stations[0][0])]), ("BadNumber", 1000000))


if __name__ == "__main__":
    unittest.main()
