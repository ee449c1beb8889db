"""What comes of going by books of rules ([68] to [70])."""

import random
import time
import unittest

from books import in_standing_order, moves_by, random_book, reached_by, town_in
from helper import (SECONDS, brim, dry, error_of, fair_towns, final_states, moves, names_of, ring_towns, rows,
                    standing_of, state_of)
from ridesonce.bookverdicts import apart, judge_book, strike
from ridesonce.every import every
from ridesonce.lots import dead_lots
from ridesonce.rulebooks import RuleBook
from ridesonce.some import wise_rides
from ridesonce.towns import Town

EXAMPLE = "let r3\nlet r1 when bikes a >= 1 and done r3\nlet r2\nlet r4 when done r2\n"
ALL = "let *\n"
RING = [("r1", "a", "b", True), ("r2", "b", "a", True)]


def dead():
    return Town([("a", 2, 0), ("b", 2, 0)], RING)


def on_road():
    """An unkept rider, whose second step comes from the street."""
    return Town([("a", 1, 1), ("b", 1, 1)], [("u", "a", "b", False), ("k", "b", "a", True)])


def walk(town, text, order):
    """The state after an order that goes by the book; fails where a step is not let."""
    state = state_of(town)
    for name in order:
        state = dict(moves_by(town, state, text))[name]
    return state


def pairs_of_towns_and_books(number, seed):
    chance = random.Random(seed)
    towns = fair_towns(number, seed, most_rides=6, most_passes=7) + ring_towns(number // 3, seed + 1, most_rides=6)
    return [(town, random_book(chance, town), random_book(chance, town)) for town in towns]


class JudgeBookTest(unittest.TestCase):
    def check(self, town, book):
        answer = judge_book(town, book)
        states = reached_by(town, lambda state: moves_by(town, state, book.text))
        final = [state for state in states if not moves_by(town, state, book.text)]
        self.assertEqual(answer == ("yes",), all(not state[1] for state in final))
        if answer != ("yes",):
            self.assertEqual((len(answer), answer[0], type(answer[1])), (2, "no", list))
            state = walk(town, book.text, answer[1])
            self.assertTrue(state[1] and state in final)
        return answer[0]

    def test_examples(self):
        self.assertEqual(judge_book(dry(), RuleBook(EXAMPLE)), ("yes",))
        self.assertEqual(judge_book(dry(), RuleBook(ALL)), ("no", ["r3", "r4"]))

    def test_a_book_that_lets_nobody(self):
        self.assertEqual(judge_book(dry(), RuleBook("")), ("no", []))
        self.assertEqual(judge_book(Town.empty(), RuleBook("")), ("yes",))
        self.assertEqual(judge_book(Town([("a", 1, 0)], []), RuleBook("let nobody\n")), ("yes",))
        self.assertEqual(judge_book(Town([("a", 1, 0)], [("s", "street", "a", True)]), RuleBook("")), ("yes",))

    def test_no_book_is_good_for_a_dead_lot(self):
        for text in (ALL, "", EXAMPLE):
            self.assertEqual(judge_book(dead(), RuleBook(text)), ("no", []))

    def test_riders_on_the_road(self):
        self.assertEqual(judge_book(on_road(), RuleBook("let u\n")), ("no", ["u"]))
        self.assertEqual(judge_book(on_road(), RuleBook("let *\n")), ("yes",))
        self.assertEqual(judge_book(on_road(), RuleBook("let u\nlet k when waits u\n")), ("yes",))
        self.assertEqual(judge_book(on_road(), RuleBook("let u\nlet k when done u\n")), ("no", ["u"]))

    def test_the_book_of_everybody(self):
        for town in fair_towns(200, 431):
            self.assertEqual(judge_book(town, RuleBook(ALL)) == ("yes",), every(town)[0] == "yes")

    def test_against_all_orders_by_the_book(self):
        seen = {}
        for town, book, _ in pairs_of_towns_and_books(300, 432):
            seen[self.check(town, book)] = True
        self.assertEqual(len(seen), 2)


class StrikeTest(unittest.TestCase):
    def test_example(self):
        found = strike(dry(), RuleBook(ALL))
        self.assertEqual(found[:3], [([], [], ["r3"]), (["r3"], [], ["r1"]), (["r1", "r3"], [], ["r2"])])
        self.assertEqual(found[3:], [(["r1", "r2", "r3"], [], ["r4"]), (["r1", "r2", "r3", "r4"], [], [])])

    def test_none(self):
        self.assertIsNone(strike(dry(), RuleBook("")))
        self.assertIsNone(strike(dry(), RuleBook("let r1\nlet r2\nlet r3\n")))
        self.assertIsNone(strike(dead(), RuleBook(ALL)))
        self.assertEqual(strike(Town.empty(), RuleBook("")), [([], [], [])])

    def test_what_the_book_forbids_stays_forbidden(self):
        # brim comes home by r3 and r1, too, but not if r3 may go last alone.
        found = strike(brim(), RuleBook("let *\n"))
        names = {name for _, _, names in found for name in names}
        self.assertEqual(names, set(names_of(brim())))
        less = strike(brim(), RuleBook("let r1\nlet r2\nlet r4\nlet r3 when waits r4 and waits r2\n"))
        self.assertTrue(all(any(row[:2] == other[:2] for other in found) for row in less))

    def test_the_wise_rides(self):
        for town in fair_towns(150, 433):
            found = strike(town, RuleBook(ALL))
            self.assertEqual(found is None, dead_lots(town) != [])
            states = {tuple(map(tuple, standing_of(town, state))): state
                      for state in reached_by(town, lambda state: moves(town, state))}
            for done, road, names in found or []:
                self.assertEqual(names, wise_rides(town_in(town, states[tuple(done), tuple(road)])))

    def test_against_all_orders_by_the_book(self):
        seen = {}
        for town, book, _ in pairs_of_towns_and_books(300, 434):
            good = {}

            def home(state):
                if state not in good:
                    good[state] = not state[1] or any([home(after) for _, after in moves_by(town, state, book.text)])
                return good[state]

            def steps(state):
                return [(name, after) for name, after in moves_by(town, state, book.text) if home(after)]

            found = strike(town, book)
            self.assertEqual(found is None, not home(state_of(town)))
            if found is not None:
                expected = in_standing_order(town, reached_by(town, steps))
                self.assertEqual(found, [(done, road, [name for name, _ in steps(state)]) for done, road, state in expected])
                self.assertEqual([row for row in found if row[2] == []], found[-1:])
                self.assertEqual(found[-1][:2], (names_of(town), []))
            seen[None if found is None else min(len(found), 4)] = True
        self.assertGreaterEqual(len(seen), 4)

    def test_lists_are_new(self):
        book = RuleBook(ALL)
        first = strike(dry(), book)
        lists = [part for row in first for part in row]
        self.assertEqual(len({id(part) for part in lists}), len(lists))
        for part in lists:
            part.append("x")
        self.assertEqual(strike(dry(), book)[0], ([], [], ["r3"]))


class ApartTest(unittest.TestCase):
    def check(self, town, first, second):
        answer = apart(town, first, second)

        def steps(state):
            names = [name for name, _ in moves_by(town, state, second.text)]
            return [(name, after) for name, after in moves_by(town, state, first.text) if name in names]

        def differ(state):
            return ({name for name, _ in moves_by(town, state, first.text)}
                    ^ {name for name, _ in moves_by(town, state, second.text)})

        lengths = [len(order) for state, order in reached_by(town, steps).items() if differ(state)]
        self.assertEqual(answer is None, lengths == [])
        if answer is not None:
            order, name = answer
            self.assertEqual(len(order), min(lengths))
            state = walk(town, first.text, order)
            self.assertEqual(state, walk(town, second.text, order))
            self.assertIn(name, differ(state))
        return answer

    def test_example(self):
        self.assertEqual(apart(dry(), RuleBook(EXAMPLE), RuleBook(ALL)), (["r3"], "r4"))
        self.assertEqual(apart(dry(), RuleBook(ALL), RuleBook(EXAMPLE)), (["r3"], "r4"))

    def test_none(self):
        for first, second in ((ALL, ALL), ("", ""), (ALL, "let r3\nlet r1\nlet r4\nlet r2\n"), ("", "let nobody\n")):
            self.assertIsNone(self.check(dry(), RuleBook(first), RuleBook(second)))
        self.assertIsNone(self.check(Town.empty(), RuleBook(""), RuleBook(ALL)))
        # Both let other rides, but none of these is ever able.
        self.assertIsNone(self.check(dead(), RuleBook(""), RuleBook(ALL)))
        self.assertIsNone(self.check(dry(), RuleBook("let r3\nlet r4\n"), RuleBook("let r3\nlet r4\nlet r2\nlet r1 when done r4\n")))

    def test_at_once(self):
        self.assertEqual(self.check(dry(), RuleBook(""), RuleBook(ALL)), ([], "r3"))
        self.assertEqual(self.check(dry(), RuleBook(ALL), RuleBook("")), ([], "r3"))

    def test_on_the_road(self):
        first, second = RuleBook("let u\nlet k when done u\n"), RuleBook("let u\nlet k when waits u\n")
        self.assertEqual(apart(on_road(), first, second)[1], "k")
        self.check(on_road(), first, second)

    def test_against_all_orders_by_both_books(self):
        seen = {}
        for town, first, second in pairs_of_towns_and_books(300, 435):
            answer = self.check(town, first, second)
            seen[None if answer is None else len(answer[0])] = True
            self.assertIsNone(apart(town, first, first))
        self.assertGreaterEqual(len(seen), 4)


class ErrorsTest(unittest.TestCase):
    def calls(self, first, second):
        return [lambda town: judge_book(town, first), lambda town: strike(town, first),
                lambda town: apart(town, first, second)]

    def test_errors_in_their_order(self):
        rides = [(f"r{at}", "a", "b", True) for at in range(9)]
        book, wrong = RuleBook(ALL), RuleBook("let *\nlet nobody when done x and free z <= 1 and bikes y >= 0\n")
        for call in self.calls(wrong, book):
            self.assertEqual(error_of(call, dry().without(["r3"])), ("NotFair", "a", -1))
            self.assertEqual(error_of(call, Town([("a", 20, 1), ("b", 20, 0)], rides)), ("NotFair", "a", -8))
            self.assertEqual(error_of(call, Town([("a", 20, 9), ("b", 20, 0)], rides)), ("TooLarge", 9))
            self.assertEqual(error_of(call, Town([("a", 20, 9), ("b", 20, 0)], rides[:8])), ("UnknownStation", "z"))
            self.assertEqual(error_of(call, Town.empty()), ("UnknownStation", "z"))
            self.assertEqual(error_of(call, dead()), ("UnknownStation", "z"))
        for call in self.calls(book, wrong)[2:] + self.calls(RuleBook("let * when bikes y >= 1\n"), wrong)[:1]:
            self.assertEqual(error_of(call, dry().without(["r3"])), ("NotFair", "a", -1))
        self.assertEqual(error_of(apart, dry(), book, wrong), ("UnknownStation", "z"))
        self.assertEqual(error_of(apart, dry(), RuleBook("let * when bikes q >= 1\n"), wrong), ("UnknownStation", "q"))
        self.assertIsNone(error_of(apart, dry(), book, RuleBook("let noone when done nobody\n")))

    def test_8_passes_and_large_books(self):
        start = time.perf_counter()
        town = Town([("a", 999999, 500000), ("b", 999999, 500000)],
                    [(f"r{at}", "ab"[at % 2], "ba"[at % 2], True) for at in range(8)])
        condition = " and ".join(["bikes a >= 1"] * 12)
        book = RuleBook(f"let * when {condition}\n" * 40)
        self.assertEqual(judge_book(town, book), ("yes",))
        self.assertEqual(len(strike(town, book)), 256)
        self.assertIsNone(apart(town, book, RuleBook(ALL)))
        self.assertEqual(len(final_states(town)), 1)
        self.assertLess(time.perf_counter() - start, SECONDS)

    def test_arguments_stay(self):
        town, book = dry(), RuleBook(EXAMPLE)
        before = (rows(town), book.text, book.lines)
        for answer in (judge_book(town, RuleBook(ALL))[1], strike(town, book), apart(town, book, RuleBook(ALL))[0]):
            answer.clear()
        self.assertEqual((rows(town), book.text, book.lines), before)
        self.assertEqual(judge_book(town, RuleBook(ALL)), ("no", ["r3", "r4"]))


if __name__ == "__main__":
    unittest.main()
