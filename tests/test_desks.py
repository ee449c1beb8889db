"""The desk: deeds, guards, what is taken back and done again, several deeds as one ([71] to [75])."""

import random
import unittest

from helper import brim, dry, end_numbers, error_of, final_states, names_of, rows, state_of
from ridesonce.desks import Desk
from ridesonce.every import every
from ridesonce.lots import dead_lots
from ridesonce.notation import write_town
from ridesonce.steps import go
from ridesonce.towns import Town

STATIONS = ["station a 2 0", "station b 2 0", "station c 2 1"]
RIDES = ["book r1 a b", "book r2 b a", "book r3 c a", "book r4 a c"]


def opened(*more):
    """A desk with the stations of dry, and these commands done, each as a deed."""
    return Desk.replay([*STATIONS, *more])


def dry_desk():
    desk = opened()
    desk.all_of(RIDES)
    return desk


def told(desk):
    """All that a desk tells of itself, with what undo and redo lead to."""
    return (rows(desk.town), desk.log, desk.riders, desk.guard, desk.verdict())


def futures(desk):
    """The logs that redo would lead to, one after another; the desk stays as it is."""
    logs, steps = [], 0
    while error_of(desk.redo) is None:
        logs.append(desk.log)
        steps += 1
    for _ in range(steps):
        desk.undo()
    return logs


class NewDeskTest(unittest.TestCase):
    def test_nothing(self):
        desk = Desk()
        self.assertEqual(told(desk), (((), ()), [], {}, "free", "sure"))
        self.assertEqual(error_of(desk.undo), ("NothingToUndo",))
        self.assertEqual(error_of(desk.redo), ("NothingToRedo",))
        self.assertEqual(told(desk), (((), ()), [], {}, "free", "sure"))

    def test_desks_share_nothing(self):
        first, second = Desk(), Desk()
        first.add_station("a", 1, 0)
        self.assertEqual((second.log, first.log), ([], ["station a 1 0"]))


class DeedsTest(unittest.TestCase):
    def test_each_deed_returns_none_and_is_written(self):
        desk = Desk()
        for deed, command in (
                (lambda: desk.add_station("a", 2, 1), "station a 2 1"), (lambda: desk.add_station("b", 999999, 0), "station b 999999 0"),
                (lambda: desk.book("r1", "a", "b"), "book r1 a b"), (lambda: desk.book("r2", "b", "a", kept=False), "book r2 b a unkept"),
                (lambda: desk.book("a", "street", "b", kept=True), "book a street b"), (lambda: desk.go("r1"), "go r1"),
                (lambda: desk.cancel("r2"), "cancel r2"), (lambda: desk.bring("a"), "bring a"), (lambda: desk.take("b"), "take b")):
            before = desk.log
            self.assertIsNone(deed())
            self.assertEqual(desk.log, before + [command])
        self.assertEqual(rows(desk.town), ((("a", 2, 1), ("b", 999999, 0)), (("a", "street", "b", True),)))

    def test_commands_do_the_same(self):
        desk = opened(*RIDES, "go r3", "go r4", "bring a", "cancel r2")
        other = opened()
        for name, start, goal in (("r1", "a", "b"), ("r2", "b", "a"), ("r3", "c", "a"), ("r4", "a", "c")):
            other.book(name, start, goal)
        other.go("r3")
        other.go("r4")
        other.bring("a")
        other.cancel("r2")
        self.assertEqual(told(desk), told(other))

    def check(self, desk, deed, *values, expected, **named):
        """The error of a deed, which changes nothing."""
        before = (told(desk), futures(desk))
        self.assertEqual(error_of(deed, *values, **named), expected)
        self.assertEqual((told(desk), futures(desk)), before)

    def test_errors_of_stations(self):
        desk = opened()
        for values, expected in ((("A", 0, 9), ("BadName", "A")), (("street", 1, 0), ("BadName", "street")), (("", 1, 0), ("BadName", "")),
                                 (("a", 0, 9), ("Duplicate", "a")), (("d", 0, 9), ("BadNumber", 0)),
                                 (("d", 1000000, -1), ("BadNumber", 1000000)), (("d", 2, 3), ("BadNumber", 3)),
                                 (("d", 2, -1), ("BadNumber", -1))):
            self.check(desk, desk.add_station, *values, expected=expected)
        for at in range(9):
            desk.add_station(f"s{at}", 1, 0)
        self.check(desk, desk.add_station, "A", 0, 9, expected=("TooLarge", 13))
        self.assertEqual(len(desk.town.stations), 12)

    def test_errors_of_bookings(self):
        desk = opened("book r1 a b")
        for values, kept, expected in (
                (("R", "x", "x"), True, ("BadName", "R")), (("street", "a", "b"), True, ("BadName", "street")),
                (("r1", "x", "x"), True, ("Duplicate", "r1")), (("r2", "x", "y"), True, ("UnknownStation", "x")),
                (("r2", "a", "y"), True, ("UnknownStation", "y")), (("r2", "a", "a"), False, ("SameEnds", "r2")),
                (("r2", "street", "street"), False, ("SameEnds", "r2")), (("r2", "street", "a"), False, ("NotKept", "r2")),
                (("r2", "a", "street"), False, ("NotKept", "r2"))):
            self.check(desk, desk.book, *values, kept=kept, expected=expected)
        for at in range(23):
            desk.book(f"q{at}", "a", "b")
        self.check(desk, desk.book, "R", "x", "x", expected=("TooLarge", 25))

    def test_errors_of_cancelling(self):
        desk = opened("bring a", "book u a b unkept", "book k a b", "book s street a")
        self.check(desk, desk.cancel, "x", expected=("UnknownRide", "x"))
        self.check(desk, desk.cancel, "a", expected=("UnknownRide", "a"))
        desk.go("u")
        self.check(desk, desk.cancel, "u", expected=("OnRoad", "u"))
        # A booked ride from the street is not on the road.
        self.assertIsNone(desk.cancel("s"))
        desk.go("u")
        self.check(desk, desk.cancel, "u", expected=("UnknownRide", "u"))

    def test_errors_of_steps(self):
        desk = opened(*RIDES)
        self.check(desk, desk.go, "x", expected=("UnknownRide", "x"))
        self.check(desk, desk.go, "a", expected=("UnknownRide", "a"))
        self.check(desk, desk.go, "r1", expected=("CannotGo", "r1"))
        desk.go("r3")
        self.check(desk, desk.go, "r3", expected=("UnknownRide", "r3"))

    def test_errors_of_bikes(self):
        desk = opened()
        for deed in (desk.bring, desk.take):
            for name in ("x", "street", "", "r1"):
                self.check(desk, deed, name, expected=("UnknownStation", name))
        self.check(desk, desk.take, "a", expected=("BadNumber", -1))
        desk.bring("a")
        desk.bring("a")
        self.check(desk, desk.bring, "a", expected=("BadNumber", 3))
        self.assertEqual(desk.town.bikes("a"), 2)

    def test_names_are_booked_again(self):
        desk = opened("book r3 c a", "go r3", "book r3 a b", "cancel r3", "book r3 a street", "book u a b unkept")
        self.assertEqual(desk.town.ride("r3"), ("r3", "a", "street", True))
        desk.all_of(["bring a", "go u", "go u", "book u b c unkept"])
        self.assertEqual((desk.town.ride("u"), desk.riders["u"]), (("u", "b", "c", False), "waiting"))
        self.assertIsNone(desk.cancel("u"))


class RidersTest(unittest.TestCase):
    def test_waiting_and_on_the_road(self):
        desk = opened("bring a", "book s street b", "book u a b unkept", "book k a c")
        self.assertEqual(list(desk.riders.items()), [("s", "waiting"), ("u", "waiting"), ("k", "waiting")])
        desk.go("u")
        self.assertEqual(list(desk.riders.items()), [("s", "waiting"), ("u", "road"), ("k", "waiting")])
        self.assertEqual(desk.town.ride("u"), ("u", "street", "b", True))
        desk.go("u")
        self.assertEqual(desk.riders, {"s": "waiting", "k": "waiting"})
        desk.undo()
        self.assertEqual(desk.riders["u"], "road")
        desk.undo()
        self.assertEqual(desk.riders["u"], "waiting")
        self.assertEqual(desk.town.ride("u"), ("u", "a", "b", False))
        desk.redo()
        self.assertEqual(desk.riders["u"], "road")

    def test_several_on_the_road(self):
        desk = opened("bring a", "bring a", "book u a b unkept", "book v a c unkept", "go v", "go u")
        self.assertEqual(desk.riders, {"u": "road", "v": "road"})
        desk.go("v")
        self.assertEqual(desk.riders, {"u": "road"})
        # The name of a rider who is done waits again when it is booked again.
        desk.book("v", "b", "a")
        self.assertEqual(desk.riders, {"u": "road", "v": "waiting"})


class VerdictTest(unittest.TestCase):
    def test_each_word(self):
        desk = opened()
        for command, word in (("book r1 a b", "unfair"), ("book r2 b a", "dead"), ("book r3 c a", "sure"), ("book r4 a c", "open"),
                              ("go r3", "open"), ("go r4", "dead"), ("bring a", "sure"), ("take a", "dead"), ("cancel r1", "unfair"),
                              ("cancel r2", "sure")):
            desk.all_of([command])
            self.assertEqual(desk.verdict(), word)

    def test_full_ends(self):
        desk = Desk.replay(write_town(brim()).replace("ride", "book").splitlines())
        self.assertEqual(rows(desk.town), rows(brim()))
        self.assertEqual(desk.verdict(), "open")
        desk.all_of(["go r3", "go r4"])
        self.assertEqual(desk.verdict(), "dead")
        desk.take("b")
        self.assertEqual(desk.verdict(), "sure")


class GuardTest(unittest.TestCase):
    def test_words(self):
        desk = Desk()
        for word in ("sure", "wise", "free"):
            self.assertIsNone(desk.set_guard(word))
            self.assertEqual(desk.guard, word)
        for word in ("", "Sure", "open", "dead", "unfair", "free ", "guard"):
            self.assertEqual(error_of(desk.set_guard, word), ("BadWord", word))
            self.assertEqual(error_of(lambda: setattr(desk, "guard", word)), ("BadWord", word))
        self.assertEqual(desk.guard, "free")

    def test_which_guard_allows_which_town(self):
        for commands, word in ((["book r1 a b"], "unfair"), (["book r1 a b", "book r2 b a"], "dead"), (RIDES, "open"), ([], "sure")):
            for guard, allowed in (("free", ("unfair", "dead", "open", "sure")), ("wise", ("open", "sure")), ("sure", ("sure",))):
                expected = None if word in allowed else ("Refused", word)
                for assigned in (False, True):
                    desk = opened(*commands)
                    call = (lambda: setattr(desk, "guard", guard)) if assigned else (lambda: desk.set_guard(guard))
                    self.assertEqual(error_of(call), expected)
                    self.assertEqual(desk.guard, guard if expected is None else "free")

    def test_a_guard_stays_when_another_is_refused(self):
        desk = dry_desk()
        desk.guard = "wise"
        self.assertEqual(error_of(desk.set_guard, "sure"), ("Refused", "open"))
        self.assertEqual(desk.guard, "wise")
        self.assertEqual(error_of(desk.set_guard, "x"), ("BadWord", "x"))
        self.assertEqual(desk.guard, "wise")

    def check(self, desk, deed, *values, expected):
        before = (told(desk), futures(desk))
        self.assertEqual(error_of(deed, *values), expected)
        self.assertEqual((told(desk), futures(desk)), before)

    def test_wise(self):
        desk = dry_desk()
        desk.guard = "wise"
        desk.go("r3")
        self.check(desk, desk.go, "r4", expected=("Refused", "dead"))
        self.check(desk, desk.cancel, "r2", expected=("Refused", "unfair"))
        self.check(desk, desk.book, "r5", "b", "c", expected=("Refused", "unfair"))
        # The errors of the deed come first.
        self.check(desk, desk.book, "r1", "b", "c", expected=("Duplicate", "r1"))
        self.check(desk, desk.go, "r2", expected=("CannotGo", "r2"))
        desk.go("r1")
        desk.go("r2")
        desk.go("r4")
        self.assertEqual((desk.riders, desk.guard), ({}, "wise"))

    def test_sure(self):
        desk = opened("bring a")
        desk.guard = "sure"
        desk.book("u", "a", "b", kept=False)
        self.check(desk, desk.book, "v", "a", "c", expected=("Refused", "unfair"))
        desk.book("v", "b", "a")
        # Behind its ride a would be empty in the end beside b, in a ring.
        self.check(desk, desk.take, "a", expected=("Refused", "dead"))
        desk.go("u")
        self.check(desk, desk.cancel, "u", expected=("OnRoad", "u"))
        desk.go("u")
        desk.go("v")
        self.assertEqual(desk.verdict(), "sure")

    def test_free_allows_all(self):
        desk = dry_desk()
        for command in ("go r3", "go r4", "cancel r1"):
            desk.all_of([command])
        self.assertEqual((desk.verdict(), desk.guard), ("unfair", "free"))

    def test_bikes_and_stations_are_guarded(self):
        desk = opened("book r1 c a", "bring b")
        desk.guard = "wise"
        self.check(desk, desk.take, "c", expected=("Refused", "unfair"))
        desk.book("r2", "a", "street")
        desk.book("r3", "street", "a")
        self.check(desk, desk.bring, "x", expected=("UnknownStation", "x"))
        self.assertIsNone(desk.add_station("d", 1, 1))
        desk.bring("a")
        self.check(desk, desk.bring, "a", expected=("Refused", "unfair"))

    def test_the_guard_is_no_deed(self):
        desk = dry_desk()
        before = desk.log
        desk.set_guard("wise")
        desk.guard = "free"
        desk.guard = "wise"
        self.assertEqual(desk.log, before)
        desk.undo()
        self.assertEqual((desk.guard, desk.log), ("wise", STATIONS))

    def test_undo_and_redo_are_guarded(self):
        desk = opened(*RIDES[:3])
        desk.guard = "wise"
        self.check(desk, desk.undo, expected=("Refused", "dead"))
        desk.guard = "free"
        desk.undo()
        desk.undo()
        self.assertEqual(error_of(desk.set_guard, "wise"), ("Refused", "unfair"))
        desk.undo()
        desk.guard = "sure"
        self.check(desk, desk.redo, expected=("Refused", "unfair"))
        desk.guard = "free"
        desk.redo()
        desk.redo()
        desk.redo()
        desk.guard = "wise"
        self.assertEqual(desk.log, [*STATIONS, *RIDES[:3]])
        self.assertEqual(error_of(desk.redo), ("NothingToRedo",))

    def test_nothing_to_undo_comes_before_refused(self):
        desk = Desk()
        desk.guard = "sure"
        self.assertEqual(error_of(desk.undo), ("NothingToUndo",))
        self.assertEqual(error_of(desk.redo), ("NothingToRedo",))


class UndoTest(unittest.TestCase):
    def test_back_and_forth(self):
        desk = Desk()
        seen = [told(desk)]
        for command in [*STATIONS, *RIDES, "go r3", "bring b", "take b", "cancel r4"]:
            desk.all_of([command])
            seen.append(told(desk))
        for expected in seen[-2::-1]:
            self.assertIsNone(desk.undo())
            self.assertEqual(told(desk), expected)
        self.assertEqual(error_of(desk.undo), ("NothingToUndo",))
        for expected in seen[1:]:
            self.assertIsNone(desk.redo())
            self.assertEqual(told(desk), expected)
        self.assertEqual(error_of(desk.redo), ("NothingToRedo",))
        self.assertEqual(told(desk), seen[-1])

    def test_a_new_deed_makes_the_others_be_forgotten(self):
        desk = opened("bring a", "bring b")
        desk.undo()
        desk.undo()
        self.assertEqual(futures(desk), [[*STATIONS, "bring a"], [*STATIONS, "bring a", "bring b"]])
        desk.take("c")
        self.assertEqual((futures(desk), desk.log), ([], [*STATIONS, "take c"]))

    def test_a_deed_that_fails_forgets_nothing(self):
        desk = opened("bring a")
        desk.undo()
        self.assertEqual(error_of(desk.take, "a"), ("BadNumber", -1))
        desk.set_guard("sure")
        self.assertEqual(error_of(desk.book, "r1", "a", "b"), ("Refused", "unfair"))
        self.assertEqual(error_of(desk.all_of, ["bring a", "bring x"]), ("UnknownStation", "x"))
        self.assertIsNone(desk.all_of([]))
        desk.redo()
        self.assertEqual(desk.log, [*STATIONS, "bring a"])


class AllOfTest(unittest.TestCase):
    def test_one_deed_for_undo_and_redo(self):
        desk = opened()
        self.assertIsNone(desk.all_of([*RIDES, "go r3"]))
        self.assertEqual(desk.log, [*STATIONS, *RIDES, "go r3"])
        after = told(desk)
        desk.undo()
        self.assertEqual((desk.log, desk.riders), (STATIONS, {}))
        desk.redo()
        self.assertEqual(told(desk), after)

    def test_no_command(self):
        desk = Desk()
        self.assertIsNone(desk.all_of([]))
        self.assertEqual(error_of(desk.undo), ("NothingToUndo",))
        desk.add_station("a", 1, 0)
        desk.undo()
        desk.all_of([])
        self.assertEqual(futures(desk), [["station a 1 0"]])

    def test_one_that_fails_at_the_end(self):
        desk = dry_desk()
        desk.bring("b")
        desk.undo()
        desk.guard = "wise"
        before = (told(desk), futures(desk))
        for commands, expected in ((["go r3", "go r4", "go r4"], ("UnknownRide", "r4")), (["bring a", "bring a", "bring a"], ("BadNumber", 3)),
                                   (["go r3", "station d 1 2"], ("BadNumber", 2)), (["go r3", "go r4"], ("Refused", "dead")),
                                   (["cancel r1"], ("Refused", "unfair")), (["take c", "go r3"], ("CannotGo", "r3"))):
            self.assertEqual(error_of(desk.all_of, commands), expected)
            self.assertEqual((told(desk), futures(desk)), before)

    def test_the_guard_is_asked_about_the_last_town_alone(self):
        desk = opened()
        desk.guard = "wise"
        self.assertEqual(error_of(desk.all_of, RIDES[:1]), ("Refused", "unfair"))
        self.assertEqual(error_of(desk.all_of, RIDES[:2]), ("Refused", "dead"))
        self.assertIsNone(desk.all_of(RIDES[:3]))
        self.assertIsNone(desk.all_of(["book r4 a c", "go r3", "go r4", "bring a"]))
        desk.guard = "sure"
        self.assertIsNone(desk.all_of(["take a", "cancel r1", "cancel r2"]))
        self.assertEqual(desk.guard, "sure")

    def test_a_command_that_is_none(self):
        desk = opened()
        before = (told(desk), futures(desk))
        for commands, wrong in ((["bring a", "undo", "bring"], "undo"), ([""], ""), (["bring a "], "bring a "), (["x"], "x"),
                                (["bring x", "send"], "send"), (["bring a", "all"], "all"), (["redo"], "redo"), (["guard free"], "guard free")):
            self.assertEqual(error_of(desk.all_of, commands), ("BadCommand", wrong))
            self.assertEqual((told(desk), futures(desk)), before)

    def test_the_list_stays(self):
        desk = opened()
        commands = list(RIDES)
        desk.all_of(commands)
        self.assertEqual(commands, RIDES)
        commands.clear()
        self.assertEqual(desk.log, [*STATIONS, *RIDES])


class CommandsTest(unittest.TestCase):
    def test_forms(self):
        for command, expected in (
                ("station d 1 0", None), ("station d 999999 0", None), ("station street 1 0", ("BadName", "street")),
                ("station a 1 0", ("Duplicate", "a")), ("station d 0 0", ("BadNumber", 0)), ("station d 1 2", ("BadNumber", 2)),
                ("book r a b", None), ("book r a b unkept", None), ("book r street b", None), ("book r a street", None),
                ("book street a b", ("BadName", "street")), ("book r a street unkept", ("NotKept", "r")),
                ("book r a z", ("UnknownStation", "z")), ("book r a a", ("SameEnds", "r")),
                ("book book a b", None), ("book unkept a b unkept", None), ("cancel cancel", ("UnknownRide", "cancel")),
                ("go go", ("UnknownRide", "go")), ("go street", ("UnknownRide", "street")), ("cancel street", ("UnknownRide", "street")),
                ("bring a", None), ("bring street", ("UnknownStation", "street")), ("take c", None),
                ("take street", ("UnknownStation", "street")), ("take bring", ("UnknownStation", "bring"))):
            self.assertEqual(error_of(opened().all_of, [command]), expected, command)

    def test_wrong_forms(self):
        for command in (
                "", " ", "station", "station d", "station d 1", "station d 1 0 0", "station d 01 0", "station d 1 00", "station d 1000000 0",
                "station d -1 0", "station d 1 +0", "station d x 0", "station D 1 0", "station abcdefghi 1 0", "station d  1 0",
                "station  d 1 0", " station d 1 0", "station d 1 0 ", "Station d 1 0", "book", "book r", "book r a", "book r a b kept",
                "book r a b Unkept", "book r a b unkept unkept", "book r a b ", "book R a b", "book r A b", "book r a B", "book r a 1b",
                "book  r a b", "book r a *", "cancel", "cancel ", "cancel r1 r2", "cancel R", "go", "go ", "go R1", "go r1 r2", "go r1\n",
                "bring", "bring a 1", "bring A", "take", "take a a", "take abcdefghi", "undo", "redo", "ask verdict", "guard free", "send",
                "all", "end", "again 2", "if sure", "ride r a b", "go\tr1", "r1", "a"):
            self.assertEqual(error_of(opened().all_of, [command]), ("BadCommand", command), command)


class ReplayTest(unittest.TestCase):
    def test_a_new_desk_with_the_guard_free(self):
        desk = dry_desk()
        desk.guard = "wise"
        other = Desk.replay(desk.log)
        self.assertIsInstance(other, Desk)
        self.assertEqual((other.guard, rows(other.town), other.log), ("free", rows(dry()), desk.log))
        self.assertEqual(told(Desk.replay([])), told(Desk()))

    def test_each_is_a_deed_of_its_own(self):
        desk = Desk.replay(dry_desk().log)
        desk.undo()
        self.assertEqual(desk.log, [*STATIONS, *RIDES[:3]])

    def test_towns_that_a_guard_would_refuse_on_the_way(self):
        desk = opened()
        desk.guard = "wise"
        desk.all_of(RIDES)
        self.assertEqual(rows(Desk.replay(desk.log).town), rows(desk.town))

    def test_the_list_stays(self):
        commands = [*STATIONS, *RIDES]
        desk = Desk.replay(commands)
        self.assertEqual(commands, [*STATIONS, *RIDES])
        commands.clear()
        self.assertEqual(desk.log, [*STATIONS, *RIDES])


class AnswersTest(unittest.TestCase):
    def test_changing_an_answer(self):
        desk = dry_desk()
        before = told(desk)
        desk.log.append("x")
        desk.riders["x"] = "road"
        desk.riders.pop("r1")
        self.assertEqual(told(desk), before)
        self.assertIs(type(desk.log), list)
        self.assertIs(type(desk.riders), dict)
        self.assertIs(type(desk.town), Town)

    def test_towns_that_were_told_stay(self):
        desk = dry_desk()
        town = desk.town
        desk.go("r3")
        desk.undo()
        self.assertEqual(rows(town), rows(dry()))
        self.assertEqual(rows(go(town, "r3")), rows(opened(*RIDES, "go r3").town))


class Model:
    """A second desk, which keeps lists of states and asks all orders for the verdict."""

    ALLOWED = {"free": ["unfair", "sure", "open", "dead"], "wise": ["sure", "open"], "sure": ["sure"]}

    def __init__(self):
        self.past, self.future, self.guard = [([], [], [], [])], [], "free"

    def verdict(self, state):
        town = Town(state[0], state[1])
        if any(not 0 <= end_numbers(town)[name] <= docks for name, docks, _ in state[0]):
            return "unfair"
        left = {last[1] for last in final_states(town)}
        return "sure" if left == {()} else "open" if () in left else "dead"

    def changed(self, state, command):
        """The state after a command, None if it cannot be done."""
        stations, rides, road, log = [list(part) for part in state]
        words = command.split(" ")
        name, names = words[1], [ride[0] for ride in rides]
        bikes = {station[0]: station[2] for station in stations}
        if words[0] in ("bring", "take"):
            at = [station[0] for station in stations].index(name) if name in bikes else None
            if at is None or not 0 <= bikes[name] + (1 if words[0] == "bring" else -1) <= stations[at][1]:
                return None
            stations[at] = (name, stations[at][1], bikes[name] + (1 if words[0] == "bring" else -1))
        elif words[0] == "book":
            known = all(place in [*bikes, "street"] for place in words[2:4])
            if not known or name in names or words[2] == words[3] or (len(words) == 5 and "street" in words[2:4]):
                return None
            rides.append((name, words[2], words[3], len(words) == 4))
        elif words[0] == "cancel":
            if name not in names or name in road:
                return None
            del rides[names.index(name)]
        elif words[0] == "go":
            town = Town(stations, rides)
            if error_of(go, town, name) is not None:
                return None
            if name in road:
                road.remove(name)
            elif not town.ride(name)[3]:
                road.append(name)
            stations, rides = [list(part) for part in rows(go(town, name))]
        return (stations, rides, road, log + [command])

    def all_of(self, commands):
        """Do the commands as one; True if that could be done."""
        state = self.past[-1]
        for command in commands:
            state = self.changed(state, command) if state is not None else None
        if state is None or self.verdict(state) not in self.ALLOWED[self.guard]:
            return False
        if commands:
            self.past, self.future = self.past + [state], []
        return True

    def move(self, source, steps):
        """Undo (-1) or redo (1)."""
        if not source or self.verdict(source[-1]) not in self.ALLOWED[self.guard]:
            return False
        if steps < 0:
            self.future.append(self.past.pop())
        else:
            self.past.append(self.future.pop())
        return True


class RandomTest(unittest.TestCase):
    COMMANDS = ["bring a", "take a", "bring b", "take b", "book r1 a b", "book r1 b a unkept", "book r2 b a", "book r2 a b unkept",
                "book r3 a street", "book r3 street b", "cancel r1", "cancel r2", "cancel r3", "go r1", "go r2", "go r3", "go r1", "go r2"]

    def compare(self, desk, model):
        stations, rides, road, log = model.past[-1]
        self.assertEqual(rows(desk.town), (tuple(stations), tuple(rides)))
        self.assertEqual((desk.log, desk.guard), (log, model.guard))
        self.assertEqual(desk.riders, {ride[0]: "road" if ride[0] in road else "waiting" for ride in rides})
        self.assertEqual(desk.verdict(), model.verdict(model.past[-1]))
        again = Desk.replay(desk.log)
        self.assertEqual((rows(again.town), again.riders), (rows(desk.town), desk.riders))

    def one_deed(self, chance, desk, model):
        """Do the same at both; whether it could be done."""
        kind = chance.random()
        if kind < 0.15:
            return error_of(desk.undo) is None, model.move(model.past[:-1], -1)
        if kind < 0.28:
            return error_of(desk.redo) is None, model.move(model.future, 1)
        if kind < 0.36:
            word = chance.choice(["free", "free", "wise", "sure"])
            allowed = model.verdict(model.past[-1]) in model.ALLOWED[word]
            model.guard = word if allowed else model.guard
            return error_of(desk.set_guard, word) is None, allowed
        commands = [chance.choice(self.COMMANDS) for _ in range(chance.choice([1, 1, 1, 2, 3, 0]))]
        return error_of(desk.all_of, commands) is None, model.all_of(commands)

    def test_against_a_model(self):
        chance, seen = random.Random(441), {}
        for _ in range(200):
            desk, model = Desk(), Model()
            for command in ("station a 2 1", "station b 2 0"):
                desk.all_of([command])
                row = (command[8], 2, int(command[12]))
                model.past.append((model.past[-1][0] + [row], [], [], model.past[-1][3] + [command]))
            if chance.random() < 0.5:
                ring = ["book r1 a b", "book r2 b a", "book r3 a street"]
                self.assertEqual((desk.all_of(ring), model.all_of(ring)), (None, True))
            for _ in range(40):
                done, expected = self.one_deed(chance, desk, model)
                self.assertEqual(done, expected)
                self.compare(desk, model)
                seen[desk.verdict(), desk.guard] = True
        # Each verdict under the guard that allows all, and those that the others allow.
        self.assertEqual(len(seen), 4 + 2 + 1, seen)

    def test_under_the_guards(self):
        """Under "wise" there always is a complete order; under "sure" no step of an able ride is refused."""
        chance = random.Random(442)
        for guard in ("wise", "sure"):
            steps = 0
            for _ in range(40):
                desk = Desk.replay(["station a 2 0", "station b 2 1"])
                desk.guard = guard
                for _ in range(30):
                    commands = [chance.choice(self.COMMANDS) for _ in range(chance.choice([1, 2, 3]))]
                    error_of(desk.all_of, commands)
                    self.assertEqual(dead_lots(desk.town), [])
                    self.assertIn(desk.verdict(), ("sure", "open") if guard == "wise" else ("sure",))
                    for name in names_of(desk.town) if guard == "sure" else []:
                        self.assertNotEqual((error_of(desk.go, name) or ("",))[0], "Refused")
                        steps += 1
                        self.assertEqual(every(desk.town)[0], "yes")
            self.assertGreater(steps, 10 if guard == "sure" else -1)
        self.assertEqual(state_of(Town.empty()), ((), ()))


if __name__ == "__main__":
    unittest.main()
