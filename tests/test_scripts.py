"""Scripts: how they are read, and what they do at a desk ([76] to [78])."""

import random
import unittest

from helper import error_of, large_town, names_of, rows
from ridesonce.desks import Desk
from ridesonce.ends import ends
from ridesonce.leftover import LeftFamily
from ridesonce.notation import write_town
from ridesonce.rules import Rule
from ridesonce.scripts import read_script, run_script
from ridesonce.senders import Wise
from ridesonce.some import wise_rides
from ridesonce.steps import able
from ridesonce.sure import sure_riders
from ridesonce.worst import worst

STATIONS = "station a 2 0\nstation b 2 0\nstation c 2 1\n"
RIDES = "book r1 a b\nbook r2 b a\nbook r3 c a\nbook r4 a c\n"
OPENING = STATIONS + "all\n" + RIDES + "end\n"
QUESTIONS = ["ask verdict", "ask able", "ask wise", "ask sure", "ask left", "ask worst", "ask ends", "ask riders"]
PLAIN = ["undo", "redo", "send", "guard free", "guard wise", "guard sure", *QUESTIONS]
DEEDS = ["station a 2 0", "book r1 a b", "book r1 street b unkept", "cancel r1", "go street", "bring a", "take b"]


def told(desk):
    return (rows(desk.town), desk.log, desk.riders, desk.guard)


def desk_of(town):
    """A desk with this town."""
    return Desk.replay(write_town(town).replace("ride ", "book ").splitlines())


def wrong_line(text):
    """The number of the first wrong line, None if the text is a script."""
    return (error_of(read_script, text) or (None, None))[1]


def nested(openings, inside="ask able\n"):
    return "".join(opening + "\n" for opening in openings) + inside + "end\n" * len(openings)


class ReadTest(unittest.TestCase):
    def test_example(self):
        self.assertEqual(read_script("again 2\nask able\nend\nundo\n"), [("again 2", ["ask able"]), "undo"])

    def test_nothing(self):
        self.assertEqual(read_script(""), [])
        self.assertEqual(read_script("all\nend\n"), [("all", [])])

    def test_plain_lines(self):
        for line in PLAIN + DEEDS:
            self.assertEqual(read_script(line + "\n"), [line])

    def test_openings(self):
        for line in ["all", *[f"again {many}" for many in range(10)], "if unfair", "if sure", "if open", "if dead"]:
            self.assertEqual(read_script(f"{line}\ngo a\nend\nundo\n"), [(line, ["go a"]), "undo"])

    def test_openings_inside_one_another(self):
        text = "if open\nsend\nagain 3\nall\ngo r1\nbring a\nend\nundo\nend\nend\nagain 0\nend\nredo\n"
        self.assertEqual(read_script(text), [("if open", ["send", ("again 3", [("all", ["go r1", "bring a"]), "undo"])]),
                                             ("again 0", []), "redo"])

    def test_4_deep_and_5_deep(self):
        for last in ("again 1", "if sure"):
            self.assertEqual(read_script(nested(["again 2", "if sure", "again 0", last])),
                             [("again 2", [("if sure", [("again 0", [(last, ["ask able"])])])])])
        self.assertEqual(read_script(nested(["again 2"] * 3 + ["all"], "go a\n"))[0][0], "again 2")
        for last in ("again 1", "if sure", "all"):
            self.assertEqual(wrong_line(nested(["again 2"] * 4 + [last], "go a\n")), 5)
        # Four that are closed do not count any more.
        self.assertIsNone(wrong_line(nested(["if sure"] * 4) + nested(["again 1"] * 4)))
        self.assertEqual(wrong_line("if sure\nif sure\nif sure\nif sure\nend\nagain 1\nall\n"), 7)

    def test_all_holds_deeds_alone(self):
        for deed in DEEDS:
            self.assertIsNone(wrong_line(f"all\n{deed}\nend\n"))
        for line in PLAIN + ["all", "again 2", "if sure", "x", ""]:
            self.assertEqual(wrong_line(f"undo\nall\ngo a\n{line}\nend\n"), 4, line)
            self.assertEqual(wrong_line(f"undo\nall\n{line}\n"), 3, line)
            self.assertEqual(wrong_line(f"if sure\nall\n{line}\nend\nend\n"), 3, line)
        self.assertEqual(wrong_line("all\ngo a\nend\nend\n"), 4)

    def test_ends_without_an_opening(self):
        self.assertEqual(wrong_line("end\n"), 1)
        self.assertEqual(wrong_line("undo\nend\nx\n"), 2)
        self.assertEqual(wrong_line("again 1\nend\nend\n"), 3)

    def test_openings_that_are_not_closed(self):
        self.assertEqual(wrong_line("all\n"), 1)
        self.assertEqual(wrong_line("undo\nif sure\nundo\n"), 2)
        self.assertEqual(wrong_line("again 1\nif sure\nundo\n"), 2)
        self.assertEqual(wrong_line("again 1\nif sure\nend\nundo\n"), 1)
        self.assertEqual(wrong_line("again 1\nif sure\nend\nif dead\nall\nend\n"), 4)
        self.assertEqual(wrong_line("again 1\nagain 2\nagain 3\nagain 4\n"), 4)

    def test_wrong_lines_come_before_openings_that_are_not_closed(self):
        self.assertEqual(wrong_line("again 1\nundo\nx\n"), 3)
        self.assertEqual(wrong_line("again 1\nundo\nredo"), 3)
        self.assertEqual(wrong_line("all\ngo a\nend"), 3)

    def test_the_newline_at_the_end(self):
        self.assertEqual(wrong_line("undo"), 1)
        self.assertEqual(wrong_line("undo\nredo"), 2)
        self.assertEqual(wrong_line("undo\nx\nredo"), 2)
        self.assertEqual(wrong_line("\n"), 1)
        self.assertEqual(wrong_line("undo\n\n"), 2)
        self.assertEqual(wrong_line(" "), 1)

    def test_wrong_lines(self):
        for line in (" ", "Undo", "undo ", " undo", "undo 1", "redo redo", "sends", "send r1", "guard", "guard ", "guard open", "guard Free",
                     "guard free wise", "guard  free", "ask", "ask ", "ask all", "ask Able", "ask able ", "ask  able", "ask board",
                     "ask verdict r1", "all ", "all 2", "All", "again", "again ", "again 10", "again 01", "again -1", "again x",
                     "again 1 2", "again  1", "again *", "again 1.", "if", "if ", "if free", "if wise", "if sure ", "if not sure", "if  sure",
                     "if sure open", "if Sure", "end ", "End", "else", "station a 2", "station a 02 0", "station a 1000000 0", "book r1 a",
                     "book r1 a b kept", "cancel", "go", "go A", "bring", "take a 1", "ride r1 a b", "*", "# undo"):
            self.assertEqual(wrong_line(f"undo\n{line}\nx\n"), 2, line)

    def test_lists_are_new(self):
        text = nested(["again 2", "if sure"])
        first = read_script(text)
        first[0][1][0][1].append("x")
        first[0][1].append("x")
        first.append("x")
        self.assertEqual(read_script(text), [("again 2", [("if sure", ["ask able"])])])
        found = read_script("if sure\nend\nif sure\nend\n")
        self.assertIsNot(found[0][1], found[1][1])


class RunTest(unittest.TestCase):
    def run_on(self, desk, text):
        answers = run_script(desk, text)
        self.assertIs(type(answers), list)
        return answers

    def test_example(self):
        desk = Desk()
        answers = run_script(desk, OPENING + "ask verdict\nask able\ngo r4\nif open\nsend\nend\nask riders\n")
        self.assertEqual(answers, ["verdict open", "able r3", "refused go r4", "riders"])
        self.assertEqual(desk.log, (STATIONS + RIDES).splitlines() + ["go r3", "go r1", "go r2", "go r4"])

    def test_nothing(self):
        desk = Desk()
        self.assertEqual(run_script(desk, ""), [])
        self.assertEqual(told(desk), told(Desk()))

    def test_deeds_give_no_answer(self):
        desk = Desk()
        self.assertEqual(run_script(desk, STATIONS + RIDES + "go r3\nbring b\ntake b\ncancel r1\nundo\nundo\nredo\nguard free\n"), [])
        self.assertEqual(desk.log, (STATIONS + RIDES).splitlines() + ["go r3", "bring b", "take b"])

    def test_each_question(self):
        desk = Desk()
        answers = run_script(desk, OPENING + "".join(line + "\n" for line in QUESTIONS))
        self.assertEqual(answers, ["verdict open", "able r3", "wise r3", "sure r3 r4", "left 2", "worst 2", "ends a=0 b=0 c=1",
                                   "riders r1=waiting r2=waiting r3=waiting r4=waiting"])
        answers = run_script(Desk(), "".join(line + "\n" for line in QUESTIONS))
        self.assertEqual(answers, ["verdict sure", "able", "wise", "sure", "left 1", "worst 0", "ends", "riders"])

    def test_questions_in_an_unfair_town(self):
        desk = Desk()
        answers = run_script(desk, STATIONS + "book r1 a b\nbook r2 a c\n" + "".join(line + "\n" for line in QUESTIONS))
        self.assertEqual(answers, ["verdict unfair", "able", "refused ask wise", "refused ask sure", "refused ask left",
                                   "refused ask worst", "ends a=-2 b=1 c=2", "riders r1=waiting r2=waiting"])

    def test_questions_in_a_town_that_is_not_small(self):
        desk = desk_of(large_town())
        answers = run_script(desk, "".join(line + "\n" for line in QUESTIONS))
        self.assertEqual([line for line in answers if line.startswith("refused")], ["refused ask left"])
        self.assertEqual(answers[5], "worst 12")
        nine = STATIONS + "".join(f"book q{at} street b\nbook r{at} b street\n" for at in range(4))
        self.assertEqual(run_script(Desk(), nine + "ask left\nbook q9 street b\nask left\nask worst\n"),
                         ["left 1", "refused ask left", "worst 0"])

    def test_riders_on_the_road(self):
        text = "station a 1 1\nstation b 1 1\nbook u a b unkept\nbook k b a\ngo u\nask riders\nask able\ncancel u\ngo u\nask riders\n"
        desk = Desk()
        self.assertEqual(run_script(desk, text), ["riders u=road k=waiting", "able k", "refused cancel u", "refused go u",
                                                  "riders u=road k=waiting"])

    def test_refused_lines(self):
        desk = Desk()
        text = "undo\nredo\ngo x\nbring x\nstation street 1 0\nstation a 1 2\nbook r a b\ncancel r\ntake a\nguard wise\nstation a 1 0\ntake a\n"
        self.assertEqual(run_script(desk, text), [f"refused {line}" for line in text.splitlines() if not line.startswith("guard")
                                                  and line != "station a 1 0"])
        self.assertEqual((desk.log, desk.guard), (["station a 1 0"], "wise"))

    def test_guards(self):
        desk = Desk()
        answers = run_script(desk, OPENING + "guard sure\nguard wise\ngo r3\ngo r4\nask able\nguard free\ngo r4\nask verdict\nguard wise\n")
        self.assertEqual(answers, ["refused guard sure", "refused go r4", "able r1 r4", "verdict dead", "refused guard wise"])
        self.assertEqual(desk.guard, "free")

    def test_all(self):
        desk = Desk()
        answers = run_script(desk, STATIONS + "all\nbring a\nbring a\nbring a\nend\nask ends\nall\nbring a\nbring b\nend\nask ends\nundo\nask ends\n")
        self.assertEqual(answers, ["refused all", "ends a=0 b=0 c=1", "ends a=1 b=1 c=1", "ends a=0 b=0 c=1"])
        self.assertEqual(run_script(desk, "all\nend\nredo\nask ends\n"), ["ends a=1 b=1 c=1"])
        self.assertEqual(run_script(desk, "guard wise\nall\nbook r1 a b\nbook r2 a c\nend\n"), ["refused all"])
        self.assertEqual(run_script(desk, "all\nbook r1 a b\nbook r2 a c\nbring a\nend\nask able\n"), ["able r1 r2"])

    def test_again(self):
        desk = Desk()
        answers = run_script(desk, "station a 9 0\nagain 3\nbring a\nask ends\nend\nagain 0\nbring a\nask ends\nend\nagain 1\ntake a\nend\nask ends\n")
        self.assertEqual(answers, ["ends a=1", "ends a=2", "ends a=3", "ends a=2"])
        answers = run_script(desk, "again 2\nagain 2\nbring a\nend\ntake a\nask ends\nend\n")
        self.assertEqual(answers, ["ends a=3", "ends a=4"])

    def test_if(self):
        desk = Desk()
        text = "".join(f"if {word}\nask verdict\nend\n" for word in ("unfair", "sure", "open", "dead"))
        for deed, word in (("station a 2 0", "sure"), ("book r1 a b", "sure"), ("station b 2 0", "sure"), ("book r1 a b", "unfair"),
                           ("book r2 b a", "dead"), ("station c 2 1", "dead"), ("book r3 c a", "sure"), ("book r4 a c", "open"),
                           ("cancel r3", "unfair")):
            answers = [line for line in run_script(desk, deed + "\n" + text) if not line.startswith("refused")]
            self.assertEqual(answers, [f"verdict {word}"])

    def test_the_verdict_is_that_of_the_moment(self):
        desk = Desk()
        text = OPENING + "if open\ngo r3\ngo r4\nif open\nask able\nend\nif dead\nask verdict\nend\nend\nif dead\nbring a\nend\nif sure\nask able\nend\n"
        self.assertEqual(run_script(desk, text), ["verdict dead", "able r1"])

    def test_send(self):
        desk = Desk()
        self.assertEqual(run_script(desk, OPENING + "send\nask riders\nundo\nask riders\nundo\nask able\n"),
                         ["riders", "riders r4=waiting", "able r2"])
        # With a dead lot, and with nobody there, nothing is done.
        self.assertEqual(run_script(Desk(), STATIONS + "book r1 a b\nbook r2 b a\nbook r3 c street\nsend\nask riders\n"),
                         ["riders r1=waiting r2=waiting r3=waiting"])
        self.assertEqual(run_script(Desk(), "send\nundo\n"), ["refused undo"])

    def test_send_in_an_unfair_town(self):
        desk = Desk()
        self.assertEqual(run_script(desk, STATIONS + "book r1 c a\nbook r2 a b\nbook r3 a b\nsend\nask able\n"), ["refused send", "able r1"])
        self.assertEqual(len(desk.log), 6)

    def test_send_with_riders_on_the_road_and_under_a_guard(self):
        for guard in ("free", "wise", "sure"):
            desk = Desk()
            text = "station a 1 1\nstation b 1 1\nbook u a b unkept\nbook k b a\n" + f"guard {guard}\nsend\nask riders\n"
            self.assertEqual(run_script(desk, text), ["riders"])
            self.assertEqual(desk.log[4:], ["go u", "go k", "go u"])

    def test_redo_behind_a_send_that_does_nothing(self):
        desk = Desk()
        self.assertEqual(run_script(desk, "station a 1 0\nundo\nsend\nredo\nask ends\n"), ["ends a=0"])

    def test_answers_are_those_of_the_functions(self):
        chance, seen = random.Random(451), set()
        for _ in range(60):
            desk = Desk.replay(["station a 2 0", "station b 2 1", "station c 1 1"])
            for _ in range(chance.randint(0, 12)):
                start, goal = chance.sample(["a", "b", "c", "street"], 2)
                word = chance.choice(["book", "book", "go", "bring", "take", "cancel"])
                name = f"r{chance.randint(0, 3)}"
                line = {"book": f"book {name} {start} {goal}", "go": f"go {name}", "cancel": f"cancel {name}"}.get(word, f"{word} {chance.choice('abc')}")
                run_script(desk, line + "\n")
            town = desk.town
            expected = {"ask verdict": lambda: ["verdict", desk.verdict()], "ask able": lambda: ["able", *able(town)],
                        "ask wise": lambda: ["wise", *wise_rides(town)], "ask sure": lambda: ["sure", *sure_riders(town)],
                        "ask left": lambda: ["left", str(len(LeftFamily(town)))], "ask worst": lambda: ["worst", str(worst(town)[0])],
                        "ask ends": lambda: ["ends", *[f"{name}={end}" for name, end in ends(town).items()]],
                        "ask riders": lambda: ["riders", *[f"{name}={state}" for name, state in desk.riders.items()]]}
            for line, call in expected.items():
                answer = " ".join(call()) if error_of(call) is None else f"refused {line}"
                self.assertEqual(run_script(desk, line + "\n"), [answer])
                seen.add(answer.split(" ")[0])
            order = Wise(Rule())(town)[0] if desk.verdict() != "unfair" else []
            before = desk.log
            self.assertEqual(run_script(desk, "send\n"), [] if desk.verdict() != "unfair" else ["refused send"])
            self.assertEqual(desk.log, before + [f"go {name}" for name in order])
        self.assertEqual(len(seen), 9)

    def test_a_script_is_its_deeds_one_by_one(self):
        chance = random.Random(452)
        lines = ["bring a", "take a", "bring b", "book r1 a b", "book r2 b a", "cancel r1", "go r1", "go r2", "undo", "redo", "guard wise", "guard free"]
        for _ in range(60):
            script = [chance.choice(lines) for _ in range(20)]
            one, other = (Desk.replay(["station a 2 0", "station b 2 1"]) for _ in range(2))
            refused = []
            for line in script:
                words = line.split(" ")
                call = {"undo": other.undo, "redo": other.redo, "guard": other.set_guard, "bring": other.bring, "take": other.take,
                        "book": other.book, "cancel": other.cancel, "go": other.go}[words[0]]
                if error_of(call, *words[1:]) is not None:
                    refused.append(f"refused {line}")
            self.assertEqual(run_script(one, "\n".join(script) + "\n"), refused)
            self.assertEqual(told(one), told(other))


class LimitTest(unittest.TestCase):
    def count(self, text):
        """The number that is too large, None if the script is executed."""
        desk = Desk()
        error = error_of(run_script, desk, text)
        if error is not None:
            self.assertEqual((error[0], told(desk)), ("TooLarge", told(Desk())))
        return None if error is None else error[1]

    def test_100_lines_and_101(self):
        self.assertEqual(len(run_script(Desk(), "ask able\n" * 100)), 100)
        self.assertEqual(self.count("ask able\n" * 101), 101)
        self.assertEqual(self.count("station a 2 0\n" + "ask able\n" * 100), 101)
        self.assertEqual(self.count("send\n" * 101), 101)
        self.assertEqual(self.count("all\n" + "go a\n" * 101 + "end\n"), 101)
        self.assertIsNone(self.count("all\n" + "go a\n" * 100 + "end\n"))

    def test_again_counts_as_often(self):
        self.assertIsNone(self.count("again 9\n" + "undo\n" * 11 + "end\nundo\n"))
        self.assertEqual(self.count("again 9\n" + "undo\n" * 11 + "end\nundo\nundo\n"), 101)
        self.assertEqual(self.count(nested(["again 9"] * 4, "undo\n")), 9 ** 4)
        self.assertEqual(self.count(nested(["again 9", "again 9"], "undo\nagain 3\nredo\nsend\nend\n")), 81 * 7)
        self.assertIsNone(self.count("again 0\n" + "undo\n" * 500 + "end\n"))
        self.assertIsNone(self.count(nested(["again 9", "again 9", "again 0", "again 9"], "undo\n" * 50)))
        self.assertIsNone(self.count(nested(["again 9"] * 4, "")))

    def test_every_if_counts(self):
        self.assertEqual(self.count("if dead\n" + "undo\n" * 50 + "end\nif sure\n" + "undo\n" * 51 + "end\n"), 101)
        self.assertEqual(self.count("again 3\nif dead\nall\n" + "go a\n" * 34 + "end\nend\nend\n"), 102)
        self.assertIsNone(self.count("again 3\nif dead\nall\n" + "go a\n" * 33 + "end\nend\nend\n"))

    def test_wrong_lines_come_first(self):
        desk = Desk()
        self.assertEqual(error_of(run_script, desk, "station a 1 0\n" * 101 + "x\n"), ("BadLine", 102))
        self.assertEqual(error_of(run_script, desk, "station a 1 0\nx\n"), ("BadLine", 2))
        self.assertEqual(error_of(run_script, desk, "station a 1 0\nagain 2\n"), ("BadLine", 2))
        self.assertEqual(told(desk), told(Desk()))

    def test_large_desks(self):
        desk = desk_of(large_town())
        answers = run_script(desk, "again 8\n" + "".join(line + "\n" for line in QUESTIONS) + "bring mid3\nguard wise\nundo\nend\nsend\nask riders\n")
        self.assertEqual(len(answers), 65)
        self.assertEqual(answers[-1], "riders")
        self.assertEqual(names_of(desk.town), [])


if __name__ == "__main__":
    unittest.main()
