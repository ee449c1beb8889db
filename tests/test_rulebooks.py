"""Books of rules: how they are written, whom they let, and how they are joined ([64] to [67])."""

import random
import unittest

from books import is_let, moves_by, random_book, random_condition, town_in
from helper import brim, dry, error_of, names_of, random_towns, reached_states, rows, state_of
from ridesonce.rulebooks import RuleBook, let_rides
from ridesonce.steps import able, go
from ridesonce.towns import Town

EXAMPLE = "let r3\nlet r1 when bikes a >= 1 and done r3\nlet r2\nlet r4 when done r2\n"
WAITS = "waits r1"


def wrong_line(text):
    """The number of the first wrong line, None if the text is a book."""
    told = error_of(RuleBook, text)
    return told if told is None else told[1]


def with_conditions(many, condition=WAITS):
    return "let r1 when " + " and ".join([condition] * many) + "\n"


class ReadTest(unittest.TestCase):
    def test_example(self):
        book = RuleBook(EXAMPLE)
        self.assertEqual(book.lines, (("r3", ()), ("r1", (("bikes", "a", ">=", 1), ("done", "r3"))), ("r2", ()),
                                      ("r4", (("done", "r2"),))))
        self.assertEqual(book.text, EXAMPLE)

    def test_the_book_without_a_line(self):
        book = RuleBook("")
        self.assertEqual((book.lines, book.text), ((), ""))

    def test_each_form(self):
        for text, condition in (("bikes north >= 2", ("bikes", "north", ">=", 2)), ("bikes a <= 0", ("bikes", "a", "<=", 0)),
                                ("free a >= 999999", ("free", "a", ">=", 999999)), ("free a <= 10", ("free", "a", "<=", 10)),
                                ("done r1", ("done", "r1")), ("waits abcdefgh", ("waits", "abcdefgh"))):
            for who in ("*", "r1", "z9"):
                book = RuleBook(f"let {who} when {text}\n")
                self.assertEqual(book.lines, ((who, (condition,)),))
                self.assertEqual(book.text, f"let {who} when {text}\n")
        self.assertEqual(RuleBook("let *\n").lines, (("*", ()),))

    def test_tuples_and_kinds(self):
        book = RuleBook(EXAMPLE)
        for row in (book.lines, *book.lines, *[line[1] for line in book.lines], *book.lines[1][1]):
            self.assertIs(type(row), tuple)
        self.assertIs(type(book.lines[1][1][0][3]), int)

    def test_words_of_the_language_as_names(self):
        text = "let when when done and and waits let and bikes when >= 1 and free bikes <= 2\nlet let\nlet and when waits done\n"
        self.assertEqual(RuleBook(text).lines, (
            ("when", (("done", "and"), ("waits", "let"), ("bikes", "when", ">=", 1), ("free", "bikes", "<=", 2))),
            ("let", ()), ("and", (("waits", "done"),))))
        self.assertEqual(RuleBook(text).text, text)
        for text in ("let when\n", "let when when waits and\n", "let done when done done\n", "let free when free free >= 0\n"):
            self.assertIsNone(wrong_line(text))
        self.assertEqual(wrong_line("let when when\n"), 1)
        self.assertEqual(wrong_line("let r1 when and\n"), 1)

    def test_wrong_lines(self):
        for line in ("", " ", "let", "let ", " let r1", "let r1 ", "let  r1", "Let r1", "lets r1", "r1", "let R1", "let 1r",
                     "let street", "let **", "let r1 r2", "let * *", "let abcdefghi", "let r_1", "let r1 when", "let r1 when ",
                     "let r1 when done", "let r1 when done *", "let r1 when done street", "let r1 when waits R1",
                     "let r1 when done r2 r3", "let r1 when done r2 and", "let r1 and done r2", "let r1 if done r2",
                     "let r1 done r2", "let r1 when done r2 when done r3", "let r1 when done r2 or done r3",
                     "let r1 when done r2  and done r3", "let r1 when done r2 and  done r3", "let r1 when and done r2",
                     "let r1 when bikes a", "let r1 when bikes a >=", "let r1 when bikes a > 1", "let r1 when bikes a = 1",
                     "let r1 when bikes a => 1", "let r1 when bikes a == 1", "let r1 when bikes >= 1",
                     "let r1 when bikes 1 >= a", "let r1 when bikes a >= -1", "let r1 when bikes a >= +1",
                     "let r1 when bikes a >= 01", "let r1 when bikes a >= 00", "let r1 when bikes a >= 1000000",
                     "let r1 when bikes a >= 0000001", "let r1 when bikes a >= 1x", "let r1 when bikes a >= x",
                     "let r1 when bikes a >= 1.0", "let r1 when bikes street >= 1", "let r1 when bikes A >= 1",
                     "let r1 when free a >= 1 2", "let r1 when full a >= 1", "let r1 when done a >= 1", "let r1 when bikes a>=1",
                     "let r1 when free a", "let r1 when waits", "let r1 when r1", "let r1\t", "# let r1"):
            self.assertEqual(wrong_line(f"let r9\n{line}\nlet\n"), 2, line)

    def test_one_word_or_one_sign_changed(self):
        words = EXAMPLE.split("\n")[1].split(" ")
        for at in range(len(words)):
            changed = " ".join(words[:at] + ["?"] + words[at + 1:])
            dropped = " ".join(words[:at] + words[at + 1:])
            self.assertEqual(wrong_line(changed + "\n"), 1, changed)
            self.assertEqual(wrong_line(dropped + "\n"), 1, dropped)
        for at, sign in enumerate(EXAMPLE[:-1]):
            if sign in " \n":
                self.assertIsNotNone(wrong_line(EXAMPLE[:at] + "_" + EXAMPLE[at + 1:]))
                self.assertIsNotNone(wrong_line(EXAMPLE[:at] + sign * 2 + EXAMPLE[at + 1:]))

    def test_the_newline_at_the_end(self):
        self.assertEqual(wrong_line("let r1"), 1)
        self.assertEqual(wrong_line("let r1\nlet r2"), 2)
        self.assertEqual(wrong_line("let r1\n\n"), 2)
        self.assertEqual(wrong_line("\n"), 1)
        self.assertEqual(wrong_line("let\nlet r2"), 1)
        self.assertEqual(wrong_line(" "), 1)

    def test_40_lines_and_41(self):
        self.assertEqual(len(RuleBook("let r1\n" * 40).lines), 40)
        self.assertEqual(wrong_line("let r1\n" * 41), 41)
        self.assertEqual(wrong_line("let r1\n" * 60), 41)
        self.assertEqual(wrong_line("let r1\n" * 40 + "let r1"), 41)
        self.assertEqual(wrong_line("let r1\n" * 40 + "wrong\n"), 41)
        self.assertEqual(wrong_line("let r1\n" * 39 + "wrong\n" * 2), 40)

    def test_12_conditions_and_13(self):
        for condition in (WAITS, "bikes a >= 1"):
            self.assertEqual(len(RuleBook(with_conditions(12, condition)).lines[0][1]), 12)
            self.assertEqual(wrong_line("let r2\n" + with_conditions(13, condition)), 2)

    def test_it_does_not_ask_for_stations_and_rides(self):
        self.assertIsNone(wrong_line("let nobody when bikes nowhere >= 999999 and done noone\n"))

    def test_written_books_are_read_again(self):
        chance = random.Random(421)
        for town in random_towns(100, 422):
            book = random_book(chance, town, most_lines=8)
            self.assertEqual(RuleBook(book.text).lines, book.lines)


class LetsTest(unittest.TestCase):
    def test_example(self):
        book = RuleBook(EXAMPLE)
        self.assertEqual([book.lets(dry(), name) for name in names_of(dry())], [False, True, True, False])
        self.assertEqual([book.lets(go(dry(), "r3"), name) for name in ("r1", "r2", "r4")], [True, True, False])

    def test_no_line_lets_nobody_but_those_from_the_street(self):
        town = Town([("a", 2, 1), ("b", 2, 1)], [("u", "a", "b", False), ("s", "street", "a", True), ("t", "a", "street", True)])
        for book in (RuleBook(""), RuleBook("let nobody\n"), RuleBook("let s when done s\n")):
            self.assertEqual([book.lets(town, name) for name in "ust"], [False, True, False])
            self.assertEqual(let_rides(town, book), ["s"])
        # Who is on the road starts at the street.
        self.assertEqual(RuleBook("").lets(go(town, "u"), "u"), True)
        self.assertEqual(let_rides(go(town, "u"), RuleBook("")), ["u", "s"])

    def test_bikes_and_free(self):
        town = Town([("a", 5, 2), ("b", 5, 0)], [("r1", "a", "b", True)])
        for word, number in (("bikes", 2), ("free", 3)):
            for limit in range(7):
                self.assertEqual(RuleBook(f"let r1 when {word} a >= {limit}\n").lets(town, "r1"), number >= limit)
                self.assertEqual(RuleBook(f"let r1 when {word} a <= {limit}\n").lets(town, "r1"), number <= limit)

    def test_done_and_waits(self):
        town = dry().without(["r2"])
        for name in ("r1", "r2", "r3", "a", "nobody"):
            waits = name in ("r1", "r3")
            self.assertIs(RuleBook(f"let r4 when waits {name}\n").lets(town, "r4"), waits)
            self.assertIs(RuleBook(f"let r4 when done {name}\n").lets(town, "r4"), not waits)
        on_road = go(Town([("a", 2, 1), ("b", 2, 1)], [("u", "a", "b", False), ("r", "b", "a", True)]), "u")
        self.assertIs(RuleBook("let r when waits u\n").lets(on_road, "r"), True)
        self.assertIs(RuleBook("let r when done u\n").lets(on_road, "r"), False)
        self.assertIs(RuleBook("let r when done u\n").lets(go(on_road, "u"), "r"), True)

    def test_one_line_is_enough_but_all_its_conditions_are_needed(self):
        book = RuleBook("let r1 when waits r1 and done r1\nlet r2 when done r2\nlet r2 when waits r2 and waits r1\n")
        self.assertEqual([book.lets(dry(), name) for name in ("r1", "r2", "r3")], [False, True, False])

    def test_everybody(self):
        self.assertEqual([RuleBook("let *\n").lets(dry(), name) for name in names_of(dry())], [True] * 4)
        book = RuleBook("let * when bikes c >= 1\nlet r2\n")
        self.assertEqual([book.lets(dry(), name) for name in names_of(dry())], [True] * 4)
        self.assertEqual([book.lets(go(dry(), "r3"), name) for name in ("r1", "r2", "r4")], [False, True, False])

    def test_it_does_not_ask_whether_the_ride_is_able(self):
        self.assertTrue(RuleBook("let r1\n").lets(dry(), "r1"))
        self.assertNotIn("r1", able(dry()))
        self.assertEqual(let_rides(dry(), RuleBook("let r1\n")), [])
        self.assertEqual(let_rides(dry(), RuleBook("let *\n")), ["r3"])

    def test_errors_in_their_order(self):
        book = RuleBook("let r1 when done x and bikes a >= 1 and free no2 >= 1\nlet r2 when bikes no1 >= 1\n")
        self.assertEqual(error_of(book.lets, dry(), "x"), ("UnknownRide", "x"))
        self.assertEqual(error_of(book.lets, dry(), "a"), ("UnknownRide", "a"))
        for name in names_of(dry()):
            self.assertEqual(error_of(book.lets, dry(), name), ("UnknownStation", "no2"))
        self.assertEqual(error_of(let_rides, dry(), book), ("UnknownStation", "no2"))
        self.assertEqual(error_of(let_rides, Town.empty(), book), ("UnknownStation", "a"))
        self.assertEqual(error_of(let_rides, dry(), RuleBook("let *\nlet nobody when bikes r1 <= 0\n")), ("UnknownStation", "r1"))

    def test_unknown_stations_where_nobody_is_able_or_all_start_at_the_street(self):
        book = RuleBook("let * when waits r1 and bikes z >= 0\n")
        town = Town([("a", 2, 0)], [("r1", "street", "a", True)])
        self.assertEqual(error_of(book.lets, town, "r1"), ("UnknownStation", "z"))
        self.assertEqual(error_of(let_rides, town, book), ("UnknownStation", "z"))
        self.assertEqual(error_of(let_rides, Town([("a", 2, 0)], []), book), ("UnknownStation", "z"))
        self.assertEqual(let_rides(Town.empty(), RuleBook("let *\n")), [])

    def test_against_the_text(self):
        chance, seen = random.Random(423), set()
        for town in random_towns(150, 424) + [dry(), brim()]:
            book = random_book(chance, town)
            for state in list(reached_states(town))[:12]:
                now = town_in(town, state)
                for name in names_of(now):
                    self.assertIs(book.lets(now, name), is_let(town, state, book.text, name))
                    seen.add(book.lets(now, name))
                self.assertEqual(let_rides(now, book), [name for name, _ in moves_by(town, state, book.text)])
        self.assertEqual(seen, {True, False})

    def test_arguments_stay(self):
        town, book = dry(), RuleBook(EXAMPLE)
        let_rides(town, book).append("x")
        self.assertEqual((rows(town), book.text, len(book.lines)), (rows(dry()), EXAMPLE, 4))
        self.assertEqual(let_rides(town, book), ["r3"])


class AndTest(unittest.TestCase):
    def both(self, first, second):
        return (RuleBook(first) & RuleBook(second)).text

    def test_example(self):
        expected = ("let r3 when waits r4\nlet r1 when bikes a >= 1 and done r3 and waits r4\nlet r2 when waits r4\n"
                    "let r4 when done r2 and waits r4\n")
        self.assertEqual(self.both(EXAMPLE, "let * when waits r4\n"), expected)

    def test_stars_on_one_side_and_on_both(self):
        self.assertEqual(self.both("let *\n", "let r1\n"), "let r1\n")
        self.assertEqual(self.both("let r1\n", "let *\n"), "let r1\n")
        self.assertEqual(self.both("let *\n", "let * when done r1\n"), "let * when done r1\n")
        self.assertEqual(self.both("let r1\n", "let r2\n"), "")
        self.assertEqual(self.both("let r1\n", "let r1\n"), "let r1\n")

    def test_lines_and_conditions_in_order(self):
        first = "let r1 when done a1\nlet * when done a2\n"
        second = "let r1 when waits b1\nlet r2 when waits b2\nlet * when waits b3\n"
        self.assertEqual(self.both(first, second),
                         "let r1 when done a1 and waits b1\nlet r1 when done a1 and waits b3\n"
                         "let r1 when done a2 and waits b1\nlet r2 when done a2 and waits b2\nlet * when done a2 and waits b3\n")

    def test_with_nothing(self):
        for first, second in (("", ""), (EXAMPLE, ""), ("", EXAMPLE)):
            self.assertEqual(self.both(first, second), "")
            self.assertEqual((RuleBook(first) & RuleBook(second)).lines, ())

    def test_40_lines_and_more(self):
        lines = "let *\n" * 8
        self.assertEqual(len((RuleBook(lines) & RuleBook("let r1\n" * 5)).lines), 40)
        self.assertEqual(error_of(lambda: RuleBook(lines) & RuleBook("let r1\n" * 6)), ("TooLarge", 48))
        self.assertEqual(error_of(lambda: RuleBook("let r1\n" * 40) & RuleBook("let *\n" * 40)), ("TooLarge", 1600))
        self.assertEqual(self.both("let r1\n" * 40, "let r2\n" * 40), "")

    def test_12_conditions_and_more(self):
        self.assertEqual(len((RuleBook(with_conditions(6)) & RuleBook(with_conditions(6))).lines[0][1]), 12)
        self.assertEqual(error_of(lambda: RuleBook(with_conditions(6)) & RuleBook(with_conditions(7))), ("TooLarge", 13))
        first = RuleBook(with_conditions(2) + with_conditions(8))
        second = RuleBook(with_conditions(3) + with_conditions(6) + with_conditions(7))
        self.assertEqual(error_of(lambda: first & second), ("TooLarge", 14))
        self.assertEqual(error_of(lambda: second & first), ("TooLarge", 14))
        third = RuleBook(with_conditions(12))
        self.assertEqual(error_of(lambda: third & second), ("TooLarge", 15))

    def test_lines_are_counted_before_conditions(self):
        first = RuleBook(with_conditions(12) * 7)
        self.assertEqual(error_of(lambda: first & first), ("TooLarge", 49))
        self.assertEqual(error_of(lambda: first & RuleBook(with_conditions(1) * 5)), ("TooLarge", 13))


class OrTest(unittest.TestCase):
    def test_lines_of_the_first_then_of_the_second(self):
        book = RuleBook(EXAMPLE) | RuleBook("let * when free b <= 1\nlet r3\n")
        self.assertEqual(book.text, EXAMPLE + "let * when free b <= 1\nlet r3\n")
        self.assertEqual(book.lines, RuleBook(book.text).lines)

    def test_with_nothing(self):
        for first, second in (("", ""), (EXAMPLE, ""), ("", EXAMPLE)):
            self.assertEqual((RuleBook(first) | RuleBook(second)).text, first + second)

    def test_40_lines_and_more(self):
        self.assertEqual(len((RuleBook("let r1\n" * 30) | RuleBook("let r1\n" * 10)).lines), 40)
        self.assertEqual(error_of(lambda: RuleBook("let r1\n" * 30) | RuleBook("let r1\n" * 11)), ("TooLarge", 41))
        self.assertEqual(error_of(lambda: RuleBook("let r1\n" * 40) | RuleBook("let r1\n" * 40)), ("TooLarge", 80))
        twelve = RuleBook(with_conditions(12))
        self.assertEqual((twelve | twelve).text, with_conditions(12) * 2)

    def test_what_both_and_one_let(self):
        chance = random.Random(425)
        for town in random_towns(150, 426) + [dry(), brim()]:
            first, second = random_book(chance, town), random_book(chance, town)
            both, one = first & second, first | second
            for state in [state_of(town), *list(reached_states(town))[-5:]]:
                now = town_in(town, state)
                for name in names_of(now):
                    self.assertIs(both.lets(now, name), first.lets(now, name) and second.lets(now, name))
                    self.assertIs(one.lets(now, name), first.lets(now, name) or second.lets(now, name))

    def test_both_stay_as_they_were(self):
        chance = random.Random(427)
        condition = random_condition(chance, ["a"], ["r1"])
        first, second = RuleBook(EXAMPLE), RuleBook(f"let * when {condition}\n")
        before = (first.text, first.lines, second.text, second.lines)
        self.assertIsInstance(first & second, RuleBook)
        self.assertIsInstance(first | second, RuleBook)
        self.assertEqual((first.text, first.lines, second.text, second.lines), before)


if __name__ == "__main__":
    unittest.main()
