"""Names, places, arguments and examples of the interface, for the modules that exist."""

import importlib
import inspect
import unittest

from helper import brim, dry, error_of, rows
from ridesonce.ahead import ahead, call_off
from ridesonce.boards import board
from ridesonce.bookverdicts import apart, judge_book, strike
from ridesonce.chances import chance, mean_left, order_counts
from ridesonce.cheapest import cheapest_mends
from ridesonce.crowds import crowd_ends, crowd_town
from ridesonce.desks import Desk
from ridesonce.districts import District, cut_town
from ridesonce.eitherway import either
from ridesonce.ends import ends
from ridesonce.every import every
from ridesonce.leastcrowd import least_crowd
from ridesonce.leftover import LeftFamily
from ridesonce.logbooks import Logbook
from ridesonce.looks import best_look, clash
from ridesonce.lots import dead_lots
from ridesonce.mends import mended
from ridesonce.notation import read_town, write_town
from ridesonce.notes import answer_of, note_of
from ridesonce.rings import bad_rings
from ridesonce.rulebooks import RuleBook, let_rides
from ridesonce.rules import Rule
from ridesonce.runner import Runner
from ridesonce.scripts import read_script, run_script
from ridesonce.senders import Wise
from ridesonce.some import some, wise_rides
from ridesonce.sorts import always, bike_range, free_pairs, tight_rows
from ridesonce.standings import before_pairs, can_stand, standings
from ridesonce.steps import able, go, is_stuck, run
from ridesonce.sure import sure_riders, why
from ridesonce.surroundings import part, placed
from ridesonce.towns import Town
from ridesonce.van import van_now, van_number
from ridesonce.worlds import ask, possible
from ridesonce.worst import worst

FUNCTIONS = {
    "notation": {"write_town": "(town)", "read_town": "(text)"},
    "steps": {"able": "(town)", "go": "(town, name)", "run": "(town, order)", "is_stopped": "(town)",
              "is_stuck": "(town)"},
    "ends": {"ends": "(town)", "first_unfair": "(town)", "empties": "(town)", "fulls": "(town)"},
    "lots": {"lots": "(town)", "dead_lots": "(town)"},
    "rings": {"bad_rings": "(town)"},
    "every": {"every": "(town)", "judge_every": "(town, verdict)"},
    "sure": {"sure_riders": "(town)", "why": "(town, name)"},
    "some": {"some": "(town)", "wise_rides": "(town)"},
    "standings": {"can_stand": "(town, done, road)", "standings": "(town)", "count_standings": "(town)",
                  "before_pairs": "(town)"},
    "eitherway": {"turn": "(town, names)", "either": "(town, names)"},
    "worst": {"worst": "(town)", "judge_worst": "(town, answer)"},
    "chances": {"order_counts": "(town)", "chance": "(town)", "mean_left": "(town)"},
    "crowds": {"crowd_ends": "(town, crowd)", "crowd_town": "(town, crowd)"},
    "sorts": {"always": "(town)", "tight_rows": "(town)", "free_pairs": "(town)", "bike_range": "(town)"},
    "leastcrowd": {"least_crowd": "(town)"},
    "mends": {"mended": "(town, mends)"},
    "cheapest": {"cheapest_mends": "(town, prices)", "judge_mends": "(town, prices, answer)"},
    "ahead": {"ahead": "(town)", "call_off": "(town)"},
    "van": {"van_now": "(town, prices)", "van_number": "(town)"},
    "districts": {"cut_town": "(town, names)"},
    "notes": {"note_of": "(district)", "answer_of": "(town)"},
    "surroundings": {"placed": "(district, surrounding)", "part": "(first, second)"},
    "worlds": {"possible": "(log, moment, *, stopped=False)", "ask": "(log, name, moment)"},
    "looks": {"best_look": "(log, moment)", "clash": "(log)"},
    "rulebooks": {"let_rides": "(town, book)"},
    "bookverdicts": {"judge_book": "(town, book)", "strike": "(town, book)", "apart": "(town, first, second)"},
    "scripts": {"read_script": "(text)", "run_script": "(desk, text)"},
    "boards": {"board": "(town)"},
}
METHODS = {
    ("towns", "Town"): {
        "__init__": "(self, stations, rides)", "docks": "(self, station)", "bikes": "(self, station)",
        "free": "(self, station)", "ride": "(self, name)", "position": "(self, name)", "passes": "(self)",
        "only": "(self, names)", "without": "(self, names)",
        "with_ride": "(self, name, start, goal, *, kept=True)", "with_bikes": "(self, station, bikes)",
    },
    ("rules", "Rule"): {"choices": "(self, town)", "rank": "(self, town, name)", "pick": "(self, town)",
                        "__call__": "(self, town)"},
    ("rules", "LastBooked"): {"rank": "(self, town, name)"},
    ("rules", "FullestStart"): {"rank": "(self, town, name)"},
    ("rules", "EmptiestGoal"): {"rank": "(self, town, name)"},
    ("rules", "KeptFirst"): {"rank": "(self, town, name)"},
    ("runner", "Runner"): {"__init__": "(self, town)", "go": "(self, name)", "back": "(self)",
                           "follow": "(self, rule)", "__len__": "(self)", "__iter__": "(self)"},
    ("senders", "Wise"): {"__init__": "(self, rule)", "choices": "(self, town)", "rank": "(self, town, name)"},
    ("leftover", "LeftFamily"): {"__init__": "(self, town)", "__len__": "(self)", "__getitem__": "(self, at)",
                                 "__iter__": "(self)", "__contains__": "(self, names)", "rank": "(self, names)",
                                 "holding": "(self, name)"},
    ("districts", "District"): {"__init__": "(self, stations, border, rides)", "__add__": "(self, other)",
                                "close": "(self, name, docks, bikes)", "as_town": "(self)"},
    ("notes", "Note"): {"__add__": "(self, other)", "close": "(self, name, docks, bikes)", "answer": "(self)"},
    ("logbooks", "Logbook"): {"__init__": "(self, town, *, slips=0)", "__setitem__": "(self, at, worth)",
                              "__getitem__": "(self, at)", "__contains__": "(self, at)", "__len__": "(self)",
                              "__iter__": "(self)", "withdraw": "(self, moment, station)"},
    ("rulebooks", "RuleBook"): {"__init__": "(self, text)", "lets": "(self, town, name)", "__and__": "(self, other)",
                                "__or__": "(self, other)"},
    ("desks", "Desk"): {"__init__": "(self)", "add_station": "(self, name, docks, bikes)",
                        "book": "(self, name, start, goal, *, kept=True)", "cancel": "(self, name)", "go": "(self, name)",
                        "bring": "(self, name)", "take": "(self, name)", "undo": "(self)", "redo": "(self)",
                        "set_guard": "(self, word)", "all_of": "(self, commands)", "verdict": "(self)"},
}


def module_of(word):
    return importlib.import_module(f"ridesonce.{word}")


class NamesTest(unittest.TestCase):
    def test_functions(self):
        for word, names in FUNCTIONS.items():
            for name, arguments in names.items():
                with self.subTest(name):
                    function = getattr(module_of(word), name)
                    self.assertTrue(inspect.isfunction(function))
                    self.assertEqual(function.__module__, f"ridesonce.{word}")
                    self.assertEqual(str(inspect.signature(function)), arguments)

    def test_methods_stand_in_the_class_itself(self):
        for (word, name), methods in METHODS.items():
            owner = getattr(module_of(word), name)
            self.assertEqual(owner.__module__, f"ridesonce.{word}")
            for method, arguments in methods.items():
                with self.subTest(f"{name}.{method}"):
                    self.assertTrue(inspect.isfunction(vars(owner)[method]))
                    self.assertEqual(str(inspect.signature(vars(owner)[method])), arguments)

    def test_class_method_and_properties(self):
        self.assertIsInstance(vars(Town)["empty"], classmethod)
        for name in ("town", "order", "left"):
            self.assertIsInstance(vars(Runner)[name], property)
        self.assertIsInstance(vars(Logbook)["town"], property)
        self.assertIsInstance(vars(RuleBook)["text"], property)
        for name in ("town", "guard", "log", "riders"):
            self.assertIsInstance(vars(Desk)[name], property)
            self.assertEqual(vars(Desk)[name].fset is None, name != "guard")
        self.assertIsInstance(vars(Desk)["replay"], classmethod)
        self.assertEqual(str(inspect.signature(Desk.replay)), "(commands)")

    def test_generators(self):
        for generator in (bad_rings, standings):
            self.assertTrue(inspect.isgeneratorfunction(generator))

    def test_bases(self):
        self.assertEqual(Wise.__bases__, (Rule,))

    def test_attributes_of_a_town(self):
        for town in (dry(), Town.empty()):
            for row in (town.stations, town.rides, *town.stations, *town.rides):
                self.assertIs(type(row), tuple)

    def test_attributes_of_districts_notes_and_logs(self):
        district = District([("x", 1, 0)], ["q", "p"], [("r", "p", "x", True)])
        for one in (district, district.close("p", 2, 1), district + District([("y", 1, 1)], ["s"], [])):
            for row in (one.stations, one.border, one.rides, *one.stations, *one.rides):
                self.assertIs(type(row), tuple)
        note = note_of(district)
        for one in (note, note + note, note.close("q", 1, 0)):
            self.assertEqual((type(one.border), type(one.form)), (tuple, tuple))
        log = Logbook(dry(), slips=2)
        self.assertEqual((vars(log)["slips"], rows(log.town)), (2, rows(dry())))

    def test_kinds_of_values_about_districts_and_logs(self):
        district = District([("x", 1, 0)], ["q", "p"], [("r", "p", "x", True)])
        for one in (district, district.close("p", 2, 1), district + District([], ["q"], []), *cut_town(dry(), ["r1"])[:2]):
            self.assertIs(type(one), District)
        self.assertIs(type(placed(district, ([("q", 1, 0), ("p", 1, 1)], [], []))), Town)
        for value in (cut_town(dry(), ["r1"]), answer_of(dry()), note_of(District([], [], [])).answer(), van_number(dry()),
                      van_now(dry(), {}), part(district, District([], ["p", "q"], [])), ask(Logbook(dry()), "r1", 1),
                      possible(Logbook(dry()), 1)[0], *list(van_number(dry())[1])):
            self.assertIs(type(value), tuple)
        for value in (cut_town(dry(), ["r1"])[2], van_now(dry(), {})[1], *part(district, District([], ["p", "q"], [])),
                      possible(Logbook(dry()), 1), *possible(Logbook(dry()), 1)[0], *ask(Logbook(dry()), "r1", 1)[1:]):
            self.assertIs(type(value), list)
        self.assertIs(type(van_number(dry())[1]), dict)
        self.assertIsNone(Logbook(brim()).__setitem__((1, "a"), 1))

    def test_kinds_of_values_about_books_and_desks(self):
        book = RuleBook("let r1 when bikes a >= 1\nlet *\n")
        for one in (book, book & book, book | book):
            self.assertIs(type(one), RuleBook)
            self.assertEqual((type(vars(one)["lines"]), type(one.text)), (tuple, str))
        for value in (let_rides(dry(), book), strike(dry(), book), *strike(dry(), book)[0], clash(Logbook(dry())),
                      read_script("all\nend\n"), read_script("all\nend\n")[0][1], run_script(Desk(), "ask able\n"), Desk().log,
                      judge_book(dry(), book)[1], apart(dry(), book, RuleBook(""))[0]):
            self.assertIs(type(value), list)
        for value in (judge_book(dry(), book), strike(dry(), book)[0], apart(dry(), book, RuleBook("")),
                      best_look(Logbook(dry()), 1), read_script("all\nend\n")[0]):
            self.assertIs(type(value), tuple)
        desk = Desk.replay(["station a 1 0"])
        self.assertEqual([type(one) for one in (desk, desk.town, desk.riders)], [Desk, Town, dict])
        for value in (desk.guard, desk.verdict(), desk.log[0], board(desk.town), *run_script(desk, "ask able\n")):
            self.assertIs(type(value), str)
        self.assertIs(book.lets(dry(), "r1"), True)

    def test_kinds_of_values(self):
        for value in (able(dry()), sure_riders(dry()), wise_rides(dry()), dead_lots(dry()), Rule().choices(dry()),
                      before_pairs(dry()), order_counts(dry()), Wise(Rule()).choices(dry())):
            self.assertIs(type(value), list)
        for value in (every(dry()), every(brim()), some(dry()), why(dry(), "r1"), why(dry(), "r3")):
            self.assertIs(type(value), tuple)
        self.assertIs(type(ends(dry())), dict)
        for part in every(dry().without(["r4"])) [1:]:
            self.assertIs(type(part), dict)

    def test_kinds_of_values_about_crowds_and_mends(self):
        crowd = {"r1": 1, "r2": 0, "r3": 2, "r4": 0}
        self.assertIs(type(crowd_ends(dry(), crowd)), dict)
        for town in (crowd_town(dry(), crowd), mended(dry(), [("spare", "a")])):
            self.assertIs(type(town), Town)
        for value in (tight_rows(dry()), free_pairs(dry()), call_off(dry()), ahead(dry())[0], ahead(dry())[1],
                      always(dry())[2], least_crowd(dry())[2]):
            self.assertIs(type(value), list)
        for value in (always(dry()), least_crowd(dry()), ahead(dry()), cheapest_mends(dry(), {}), tight_rows(dry())[0]):
            self.assertIs(type(value), tuple)
        for value in (always(dry())[3], least_crowd(dry())[3]):
            self.assertIs(type(value), dict)


class ExamplesTest(unittest.TestCase):
    def test_towns(self):
        self.assertEqual(dry().ride("r3"), ("r3", "c", "a", True))
        self.assertEqual(dry().with_ride("r5", "a", "street").rides[4], ("r5", "a", "street", True))
        self.assertEqual(error_of(dry().with_ride, "r5", "a", "street", kept=False), ("NotKept", "r5"))

    def test_notation(self):
        town = Town([("a", 2, 0)], [("r1", "a", "street", True)])
        self.assertEqual(write_town(town), "station a 2 0\nride r1 a street\n")
        self.assertEqual(rows(read_town(write_town(town))), rows(town))
        self.assertEqual(error_of(read_town, "station a 2 0\nride r1 a b\nstation b 2 0\n"), ("BadLine", 2))

    def test_steps(self):
        self.assertEqual(able(dry()), ["r3"])
        self.assertTrue(is_stuck(run(dry(), ["r3", "r4"])))

    def test_ends_and_lots(self):
        self.assertEqual(ends(dry()), {"a": 0, "b": 0, "c": 1})
        self.assertEqual(dead_lots(run(dry(), ["r3", "r4"])), [("empty", ["r1", "r2"])])

    def test_rings_and_every(self):
        self.assertEqual(list(bad_rings(brim())), [("full", ["r1", "r2"])])
        self.assertEqual(every(brim()), ("no", "full", ["r1", "r2"], ["r3", "r4"]))
        self.assertEqual(every(dry().without(["r4"])), ("yes", {"b": 0, "c": 0}, {}))

    def test_sure_and_some(self):
        self.assertEqual(sure_riders(dry()), ["r3", "r4"])
        self.assertEqual(why(brim(), "r3"), ("sure", [], []))
        self.assertEqual(some(dry()), ("yes", ["r3", "r1", "r2", "r4"]))
        self.assertEqual(wise_rides(go(dry(), "r3")), ["r1"])

    def test_standings(self):
        self.assertEqual(can_stand(dry(), ["r1", "r2"], []), ("no", "empty", ["r1", "r2"]))
        self.assertEqual(can_stand(dry(), ["r4"], []), ("no", "docks", "a", -1))
        expected = [("r1", "r2"), ("r1", "r4"), ("r2", "r4"), ("r3", "r1"), ("r3", "r2"), ("r3", "r4")]
        self.assertEqual(before_pairs(dry()), expected)

    def test_either(self):
        town = Town([("a", 2, 1), ("b", 1, 1)], [("r1", "a", "b", True)])
        self.assertEqual(either(town, ["r1"]), ("yes", ["r1"], ["r1"]))
        town = Town([("a", 1, 1), ("b", 1, 1)], [("r1", "a", "b", True)])
        self.assertEqual(either(town, ["r1"]), ("no", "inside", ["a", "b"]))

    def test_leftover_worst_and_chances(self):
        self.assertEqual(list(LeftFamily(dry())), [(), ("r1", "r2")])
        self.assertEqual(worst(dry()), (2, ["r1", "r2"], {"a": 0, "b": 0}))
        self.assertEqual(order_counts(dry()), [((), 1), (("r1", "r2"), 1)])
        self.assertEqual((chance(dry()), mean_left(dry())), ((1, 2), (1, 1)))

    def test_sorts(self):
        self.assertEqual(tight_rows(dry()), [("empty", ["a", "b", "c"], 4, 5), ("full", ["a", "b", "c"], 4, 1)])
        pair = Town([("a", 2, 1), ("b", 2, 1)], [("r1", "a", "b", True), ("r2", "b", "a", True)])
        self.assertEqual(always(pair), ("yes", [("empty", ["a", "b"], 4, 2), ("full", ["a", "b"], 4, 2)]))
        self.assertEqual(bike_range(pair), (1, 3))

    def test_cheapest_mends(self):
        tree = ("ring", ["r1", "r2"], [(("reserve", "a"), ("price", 3)), (("reserve", "b"), ("price", 2))])
        expected = ("yes", 2, [("reserve", "b")], tree, ("price", 0))
        self.assertEqual(cheapest_mends(dry(), {("reserve", "a"): 3, ("reserve", "b"): 2}), expected)
        self.assertEqual(cheapest_mends(dry(), {("spare", "a"): 1}), ("no", "empty", ["r1", "r2"]))

    def test_ahead(self):
        self.assertEqual(ahead(dry()), (["r1", "r3"], ["r3", "r1"]))
        self.assertEqual(call_off(dry()), ["r4"])

    def test_van(self):
        prices = {("bring", "a"): 3, ("bring", "b"): 2, ("take", "c"): 0}
        self.assertEqual(van_now(run(dry(), ["r3", "r4"]), prices), (2, [("bring", "b")]))
        self.assertEqual(van_number(dry()), (1, {("r1", "r2"): ("bring", "a")}))

    def test_notes(self):
        part_a = District([("x", 1, 0)], ["p", "q"], [("r1", "p", "x", True), ("r2", "x", "q", True)])
        expected = ("fair", (("p", -1), ("q", 1)), ("ways", (("p", "q"),), ()), ("lots", (), ((("p", "q"), False, True),)))
        self.assertEqual(note_of(part_a).form, expected)
        expected = ("fair", (("q", 1),), ("ways", (), ()), ("lots", ("q",), ()))
        self.assertEqual(note_of(part_a).close("p", 2, 1).form, expected)

    def test_worlds(self):
        log = Logbook(dry())
        log[1, "c"] = 0
        log[2, "c"] = 1
        self.assertEqual(possible(log, 2), [(["r3", "r4"], []), (["r1", "r2", "r3", "r4"], [])])
        self.assertEqual(ask(log, "r3", 1), ("sure", "done"))
        self.assertEqual(best_look(log, 2), ("a", 2))

    def test_rulebooks(self):
        book = RuleBook("let r3\nlet r1 when bikes a >= 1 and done r3\nlet r2\nlet r4 when done r2\n")
        self.assertEqual(book.lines[1], ("r1", (("bikes", "a", ">=", 1), ("done", "r3"))))
        expected = ("let r3 when waits r4\nlet r1 when bikes a >= 1 and done r3 and waits r4\nlet r2 when waits r4\n"
                    "let r4 when done r2 and waits r4\n")
        self.assertEqual((book & RuleBook("let * when waits r4\n")).text, expected)
        self.assertEqual(judge_book(dry(), book), ("yes",))
        self.assertEqual(judge_book(dry(), RuleBook("let *\n")), ("no", ["r3", "r4"]))
        self.assertEqual(apart(dry(), book, RuleBook("let *\n")), (["r3"], "r4"))
        expected = [([], [], ["r3"]), (["r3"], [], ["r1"]), (["r1", "r3"], [], ["r2"])]
        self.assertEqual(strike(dry(), RuleBook("let *\n"))[:3], expected)

    def test_scripts_and_boards(self):
        self.assertEqual(read_script("again 2\nask able\nend\nundo\n"), [("again 2", ["ask able"]), "undo"])
        opening = ("station a 2 0\nstation b 2 0\nstation c 2 1\nall\nbook r1 a b\nbook r2 b a\nbook r3 c a\nbook r4 a c\n"
                   "end\n")
        script = opening + "ask verdict\nask able\ngo r4\nif open\nsend\nend\nask riders\n"
        self.assertEqual(run_script(Desk(), script), ["verdict open", "able r3", "refused go r4", "riders"])
        self.assertEqual(board(Town([("a", 2, 0)], [])), "a              0       2       0  empty\n")


if __name__ == "__main__":
    unittest.main()
