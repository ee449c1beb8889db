"""Arguments stay as they are, and changing an answer changes nothing else ([2])."""

import copy
import unittest

from helper import (BRIM_RIDES, BRIM_STATIONS, DRY_RIDES, DRY_STATIONS, brim, dry, error_of, fair_towns, names_of,
                    random_towns, ring_towns, rows)
from ridesonce.ahead import ahead, call_off
from ridesonce.bookverdicts import apart, judge_book, strike
from ridesonce.chances import chance, mean_left, order_counts
from ridesonce.cheapest import cheapest_mends, judge_mends
from ridesonce.crowds import crowd_ends, crowd_town
from ridesonce.districts import District, cut_town
from ridesonce.eitherway import either, turn
from ridesonce.ends import empties, ends, fulls
from ridesonce.every import every, judge_every
from ridesonce.leastcrowd import least_crowd
from ridesonce.leftover import LeftFamily
from ridesonce.logbooks import Logbook
from ridesonce.looks import best_look, clash
from ridesonce.lots import dead_lots, lots
from ridesonce.mends import mended
from ridesonce.rings import bad_rings
from ridesonce.rulebooks import RuleBook, let_rides
from ridesonce.rules import KeptFirst, Rule
from ridesonce.runner import Runner
from ridesonce.senders import Wise
from ridesonce.some import some, wise_rides
from ridesonce.sorts import always, bike_range, free_pairs, tight_rows
from ridesonce.standings import before_pairs, can_stand, count_standings, standings
from ridesonce.steps import able, go, run
from ridesonce.sure import sure_riders, why
from ridesonce.towns import Town
from ridesonce.van import van_now, van_number
from ridesonce.worlds import ask, possible
from ridesonce.worst import judge_worst, worst
from test_mends import mends_of


def parts(value):
    """All lists and dicts in an answer, however deep."""
    found = [value] if isinstance(value, (list, dict)) else []
    if isinstance(value, (list, tuple)):
        found += [part for one in value for part in parts(one)]
    if isinstance(value, dict):
        found += [part for one in value.values() for part in parts(one)]
    return found


def spoil(value):
    """Change every list and dict of an answer."""
    for part in parts(value):
        if isinstance(part, list):
            part.append("spoiled")
            part.reverse()
        else:
            part["spoiled"] = 1


def unkept_of(town):
    return [ride[0] for ride in town.rides if not ride[3]]


def prices_of_deeds(town):
    """The same price for each deed of the van."""
    return {(word, station[0]): 3 for station in town.stations[::-1] for word in ("take", "bring")}


def book_of(town):
    """Every other rider waits for the one before."""
    names = names_of(town)
    lines = [f"let {name} when done {names[at - 1]}\n" if at % 2 else f"let {name}\n" for at, name in enumerate(names)]
    return RuleBook("".join(lines))


ANSWERS = [able, ends, empties, fulls, lots, dead_lots, Rule().choices, KeptFirst().choices,
           lambda town: list(standings(town)), lambda town: can_stand(town, names_of(town), []),
           lambda town: can_stand(town, names_of(town)[:1], []), lambda town: can_stand(town, [], unkept_of(town)),
           lambda town: either(town, names_of(town)), lambda town: either(town, []),
           lambda town: crowd_ends(town, {name: 2 for name in names_of(town)}), always, tight_rows, free_pairs,
           least_crowd, call_off, lambda town: cut_town(town, names_of(town)[::2])[2],
          lambda town: possible(Logbook(town), 2), lambda town: possible(Logbook(town), 4, stopped=True),
          lambda town: [ask(Logbook(town), name, 3) for name in names_of(town)[:2]],
          lambda town: let_rides(town, RuleBook("let *\n"))]
FAIR_ANSWERS = [every, some, sure_riders, wise_rides, lambda town: list(bad_rings(town)),
                lambda town: [why(town, ride[0]) for ride in town.rides], worst, order_counts,
                lambda town: list(LeftFamily(town)), Wise(Rule()).choices,
                lambda town: [] if dead_lots(town) else before_pairs(town), ahead,
                lambda town: cheapest_mends(town, {mend: 1 for mend in mends_of(town)}),
                lambda town: cheapest_mends(town, {mend: 1 for mend in mends_of(town)[::2]}), van_number,
                lambda town: van_now(town, prices_of_deeds(town)), lambda town: judge_book(town, book_of(town)),
                lambda town: strike(town, RuleBook("let *\n")), lambda town: strike(town, book_of(town)),
                lambda town: apart(town, book_of(town), RuleBook("let *\n"))]


class AnswersTest(unittest.TestCase):
    def check(self, answer, town):
        before = rows(town)
        first = answer(town)
        kept = copy.deepcopy(first)
        second = answer(town)
        both = parts(first) + parts(second)
        self.assertEqual(len({id(part) for part in both}), len(both))
        spoil(first)
        self.assertEqual(second, kept)
        self.assertEqual(answer(town), kept)
        self.assertEqual(rows(town), before)

    def test_changing_an_answer(self):
        for town in random_towns(60, 61) + [dry(), brim(), Town.empty()]:
            for answer in ANSWERS:
                self.check(answer, town)

    def test_changing_an_answer_about_a_fair_town(self):
        for town in fair_towns(150, 62) + ring_towns(20, 69) + [dry(), brim(), Town.empty(), dry().without(["r4"])]:
            for answer in FAIR_ANSWERS:
                self.check(answer, town)

    def test_changing_what_a_rule_tells(self):
        order, town = Rule()(dry())
        before = rows(town)
        order.clear()
        self.assertEqual(rows(town), before)
        self.assertEqual(Rule()(dry())[0], ["r3", "r1", "r2", "r4"])


class ArgumentsTest(unittest.TestCase):
    def test_lists_that_a_town_was_made_from(self):
        stations, rides = list(DRY_STATIONS), list(DRY_RIDES)
        town = Town(stations, rides)
        self.assertEqual((stations, rides), (DRY_STATIONS, DRY_RIDES))
        stations[0] = ("a", 9, 9)
        stations.pop()
        rides.clear()
        self.assertEqual(rows(town), rows(dry()))
        self.assertEqual([town.docks("a"), town.bikes("a"), town.bikes("c")], [2, 0, 1])
        self.assertEqual(ends(town), {"a": 0, "b": 0, "c": 1})
        self.assertEqual(town.ride("r4"), ("r4", "a", "c", True))

    def test_a_town_that_could_not_be_made(self):
        stations, rides = list(BRIM_STATIONS), BRIM_RIDES + [("r1", "a", "b", True)]
        self.assertRaises(ValueError, Town, stations, rides)
        self.assertEqual((stations, rides), (BRIM_STATIONS, BRIM_RIDES + [("r1", "a", "b", True)]))

    def test_lists_of_names(self):
        names = ["r2", "r1", "r2"]
        towns = [dry().only(names), dry().without(names)]
        self.assertEqual(names, ["r2", "r1", "r2"])
        before = [rows(town) for town in towns]
        names.clear()
        self.assertEqual([rows(town) for town in towns], before)

    def test_orders(self):
        order = ["r3", "r1"]
        town = run(dry(), order)
        self.assertEqual(order, ["r3", "r1"])
        order.clear()
        self.assertEqual(rows(town), rows(go(go(dry(), "r3"), "r1")))

    def test_verdicts(self):
        for town in fair_towns(200, 63):
            verdict = every(town)
            before = copy.deepcopy(verdict)
            judge_every(town, verdict)
            self.assertEqual(verdict, before)

    def test_lists_of_a_standing(self):
        for town in random_towns(60, 64):
            done, road = names_of(town)[::-2], unkept_of(town)[::-1]
            before = (list(done), list(road), rows(town))
            error_of(can_stand, town, done, road)
            self.assertEqual((done, road, rows(town)), before)

    def test_names_that_may_be_turned(self):
        for town in random_towns(60, 65):
            names = names_of(town)[::-1]
            turned, told = turn(town, names), either(town, names)
            self.assertEqual(names, names_of(town)[::-1])
            before, kept = rows(turned), copy.deepcopy(told)
            names.clear()
            self.assertEqual((rows(turned), told), (before, kept))

    def test_answers_to_judge_worst(self):
        for town in fair_towns(60, 66):
            answer = worst(town)
            before = copy.deepcopy(answer)
            judge_worst(town, answer)
            self.assertEqual(answer, before)

    def test_a_family(self):
        town = dry()
        family = LeftFamily(town)
        names = ["r2", "r1"]
        self.assertTrue(names in family)
        self.assertEqual(family.rank(names), 1)
        self.assertEqual(names, ["r2", "r1"])
        spoil([names, list(family)])
        self.assertEqual(list(family), [(), ("r1", "r2")])
        self.assertEqual(rows(town), rows(dry()))

    def test_crowds(self):
        for town in random_towns(60, 68):
            crowd = {name: 1 for name in names_of(town)[::-1]}
            before = (list(crowd.items()), rows(town))
            numbers, made = crowd_ends(town, crowd), crowd_town(town, crowd)
            self.assertEqual((list(crowd.items()), rows(town)), before)
            kept = (dict(numbers), rows(made))
            crowd.clear()
            self.assertEqual((numbers, rows(made)), kept)

    def test_prices_and_mends(self):
        for town in ring_towns(40, 70):
            prices = {mend: at for at, mend in enumerate(mends_of(town)[::-1])}
            before = (list(prices.items()), rows(town))
            answer = cheapest_mends(town, prices)
            kept = copy.deepcopy(answer)
            self.assertTrue(judge_mends(town, prices, answer))
            after = mended(town, answer[2])
            self.assertEqual((list(prices.items()), rows(town), answer), (*before, kept))
            told = rows(after)
            spoil(answer[2])
            prices.clear()
            self.assertEqual((rows(after), rows(town)), (told, before[1]))

    def test_prices_of_deeds(self):
        for town in ring_towns(40, 71):
            prices = prices_of_deeds(town)
            before = (list(prices.items()), rows(town))
            answer = van_now(town, prices)
            kept = copy.deepcopy(answer)
            self.assertEqual((list(prices.items()), rows(town)), before)
            prices.clear()
            self.assertEqual(answer, kept)

    def test_lists_that_a_district_was_made_from(self):
        stations, border, rides = [("x", 1, 0)], ["q", "p"], [("r1", "p", "x", True)]
        district = District(stations, border, rides)
        self.assertEqual((stations, border, rides), ([("x", 1, 0)], ["q", "p"], [("r1", "p", "x", True)]))
        for rest in (stations, border, rides):
            rest.clear()
        self.assertEqual(district.stations, (("x", 1, 0),))
        self.assertEqual((district.border, district.rides), (("q", "p"), (("r1", "p", "x", True),)))
        self.assertEqual(district.close("p", 1, 1).border, ("q",))

    def test_names_of_a_cut(self):
        for town in random_towns(40, 72):
            names = names_of(town)[::-2]
            first, second, between = cut_town(town, names)
            self.assertEqual(names, names_of(town)[::-2])
            before = (first.stations, first.border, first.rides, second.stations, second.border, second.rides)
            spoil([names, between])
            after = (first.stations, first.border, first.rides, second.stations, second.border, second.rides)
            self.assertEqual(after, before)

    def test_logs_are_asked_and_stay(self):
        for town in random_towns(40, 73):
            log = Logbook(town, slips=1)
            for name, docks, _ in town.stations:
                log[2, name] = docks
            before = (list(log), rows(town))
            for moment in (1, 2):
                possible(log, moment)
                best_look(log, moment)
                for name in names_of(town)[:1]:
                    ask(log, name, moment)
            spoil([clash(log), list(log)])
            self.assertEqual((list(log), rows(log.town)), before)

    def test_numbers(self):
        for town in fair_towns(40, 67):
            before = rows(town)
            answers = [count_standings(town), chance(town), mean_left(town), bike_range(town)]
            self.assertEqual([count_standings(town), chance(town), mean_left(town), bike_range(town)], answers)
            self.assertEqual(rows(town), before)

    def test_towns_of_a_runner(self):
        town = dry()
        runner = Runner(town)
        runner.follow(Rule())
        spoil([runner.order, runner.left, list(runner)])
        self.assertEqual(runner.order, ["r3", "r1", "r2", "r4"])
        self.assertEqual(len(list(runner)), 5)
        self.assertEqual(rows(town), rows(dry()))


if __name__ == "__main__":
    unittest.main()
