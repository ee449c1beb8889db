"""Nets, ways and lots of a district, its note, and how notes are joined and closed ([53] to [55])."""

import itertools
import random
import unittest

from helper import brim, dry, end_numbers, error_of, fair_towns, has_complete, is_fair, left_lists, random_towns
from pieces import part_a, random_district, random_districts, random_surrounding
from ridesonce.districts import District, cut_town
from ridesonce.notes import Note, answer_of, note_of
from ridesonce.surroundings import placed
from ridesonce.towns import Town

NO_WAYS = ("ways", (), ())
NO_LOTS = ("lots", (), ())


def every_of(district):
    return note_of(district).form[2]


def some_of(district):
    return note_of(district).form[3]


def same(first, second):
    return (first.border, first.form) == (second.border, second.form)


def by_search(town):
    """The answer of a town out of all its orders."""
    return ("fair", left_lists(town) == [()], has_complete(town)) if is_fair(town) else ("unfair",)


class FormTest(unittest.TestCase):
    def test_examples(self):
        note = note_of(part_a())
        self.assertEqual(note.border, ("p", "q"))
        self.assertEqual(note.form, ("fair", (("p", -1), ("q", 1)), ("ways", (("p", "q"),), ()),
                                     ("lots", (), ((("p", "q"), False, True),))))
        note = note.close("p", 2, 1)
        self.assertEqual(note.border, ("q",))
        self.assertEqual(note.form, ("fair", (("q", 1),), NO_WAYS, ("lots", ("q",), ())))

    def test_nothing(self):
        note = note_of(District([], [], []))
        self.assertEqual((note.border, note.form), ((), ("fair", (), NO_WAYS, NO_LOTS)))
        self.assertIsInstance(note, Note)
        note = note_of(District([], ["q", "p"], []))
        self.assertEqual((note.border, note.form), (("p", "q"), ("fair", (("p", 0), ("q", 0)), NO_WAYS, NO_LOTS)))

    def test_unfair_inside(self):
        for stations, rides in (([("x", 1, 0)], [("r", "x", "p", True)]), ([("x", 1, 1)], [("r", "p", "x", True)]),
                                ([("y", 1, 0), ("x", 1, 0)], [("r", "street", "x", True), ("s", "p", "x", False)])):
            note = note_of(District(stations, ["q", "p"], rides))
            self.assertEqual((note.border, note.form), (("p", "q"), ("unfair",)))
        self.assertEqual(note_of(District([("x", 1, 0)], ["p"], [("r", "p", "x", True)])).form[0], "fair")

    def test_nets(self):
        rides = [("r1", "p", "street", True), ("r2", "b", "p", False), ("r3", "b", "p", True), ("r4", "street", "b", True),
                 ("r5", "street", "b", True), ("r6", "street", "b", True)]
        self.assertEqual(note_of(District([], ["p", "q", "b"], rides)).form[1], (("b", 1), ("p", 1), ("q", 0)))

    def test_tuples_throughout(self):
        def kinds(value):
            self.assertIn(type(value), (tuple, str, int, bool))
            for one in value if isinstance(value, tuple) else ():
                kinds(one)
        for district in random_districts(100, 341):
            note = note_of(district)
            kinds((note.border, note.form))
            self.assertEqual(list(note.border), sorted(district.border))


class WaysTest(unittest.TestCase):
    def test_a_single_ride(self):
        rides = [("r1", "q", "p", True), ("r2", "q", "b", False)]
        self.assertEqual(every_of(District([], ["q", "p", "b"], rides)), ("ways", (("q", "b"), ("q", "p")), (("q", "p"),)))

    def test_inner_stations_have_to_be_at_their_end(self):
        rides = [("r1", "p", "x", True), ("r2", "x", "q", True)]
        for station, low, high in ((("x", 2, 0), True, False), (("x", 2, 1), False, False), (("x", 2, 2), False, True)):
            found = every_of(District([station], ["p", "q"], rides))
            self.assertEqual(found, ("ways", (("p", "q"),) if low else (), (("p", "q"),) if high else ()))

    def test_the_end_number_counts_not_the_bikes_now(self):
        rides = [("r1", "p", "x", True), ("r2", "x", "q", True), ("r3", "x", "street", True), ("r4", "street", "y", True)]
        self.assertEqual(every_of(District([("x", 2, 1), ("y", 1, 0)], ["p", "q"], rides)), ("ways", (("p", "q"),), ()))
        self.assertEqual(every_of(District([("x", 2, 0), ("y", 1, 0)], ["p", "q"], rides[:2] + rides[3:]))[1], (("p", "q"),))

    def test_high_ways_have_kept_rides(self):
        for first, second in itertools.product([True, False], repeat=2):
            rides = [("r1", "p", "x", first), ("r2", "x", "q", second)]
            found = every_of(District([("x", 2, 2)], ["p", "q"], rides))
            self.assertEqual(found, ("ways", (), (("p", "q"),) if first and second else ()))
            found = every_of(District([("x", 2, 0)], ["p", "q"], rides))
            self.assertEqual(found, ("ways", (("p", "q"),), ()))

    def test_long_ways(self):
        rides = [("r1", "p", "x", True), ("r2", "x", "y", False), ("r3", "y", "z", True), ("r4", "z", "q", True)]
        stations = [("x", 1, 0), ("y", 1, 0), ("z", 1, 0)]
        self.assertEqual(every_of(District(stations, ["p", "q"], rides)), ("ways", (("p", "q"),), ()))
        self.assertEqual(every_of(District([*stations[:2], ("z", 1, 1)], ["p", "q"], rides)), NO_WAYS)

    def test_no_way_through_a_border_station_or_the_street(self):
        rides = [("r1", "p", "b", True), ("r2", "b", "q", True)]
        self.assertEqual(every_of(District([], ["p", "q", "b"], rides))[1], (("b", "q"), ("p", "b")))
        rides = [("r1", "p", "street", True), ("r2", "street", "q", True)]
        self.assertEqual(every_of(District([], ["p", "q"], rides)), NO_WAYS)

    def test_a_way_to_itself_hides_the_others(self):
        rides = [("r1", "p", "x", True), ("r2", "x", "p", True), ("r3", "p", "q", True), ("r4", "q", "b", True),
                 ("r5", "b", "p", False)]
        self.assertEqual(every_of(District([("x", 1, 0)], ["p", "q", "b"], rides)),
                         ("ways", (("p", "p"), ("q", "b")), (("p", "q"), ("q", "b"))))
        self.assertEqual(every_of(District([("x", 1, 1)], ["p", "q", "b"], rides)),
                         ("ways", (("b", "p"), ("p", "q"), ("q", "b")), (("p", "p"), ("q", "b"))))

    def test_a_way_to_itself_does_not_pass_another_border_station(self):
        rides = [("r1", "p", "q", True), ("r2", "q", "p", True)]
        self.assertEqual(every_of(District([], ["p", "q"], rides))[1], (("p", "q"), ("q", "p")))

    def test_rings_of_inner_stations(self):
        for kept, docks, bikes, expected in ((False, 1, 0, ("ring",)), (True, 2, 2, ("ring",)), (False, 2, 2, NO_WAYS),
                                             (True, 2, 1, NO_WAYS)):
            rides = [("r1", "x", "y", True), ("r2", "y", "x", kept)]
            self.assertEqual(every_of(District([("x", docks, bikes), ("y", docks, bikes)], ["p"], rides)), expected)
        self.assertEqual(every_of(District([("x", 1, 0), ("y", 1, 1)], [], [("r1", "x", "y", True), ("r2", "y", "x", True)])),
                         NO_WAYS)

    def test_a_ring_through_the_border_is_none(self):
        rides = [("r1", "x", "p", True), ("r2", "p", "x", True)]
        self.assertEqual(every_of(District([("x", 1, 0)], ["p"], rides)), ("ways", (("p", "p"),), ()))


class LotsTest(unittest.TestCase):
    def check(self, stations, border, rides, expected):
        self.assertEqual(some_of(District(stations, border, rides)), expected)

    def test_bikes_now_and_in_the_end(self):
        ride = [("r1", "x", "q", True)]
        self.check([("x", 1, 1)], ["q"], ride, ("lots", ("q",), ()))
        self.check([("x", 1, 0)], ["q"], [("r1", "q", "x", True)], ("lots", ("q",), ()))
        self.check([("x", 1, 0)], ["q"], [*ride, ("r2", "q", "x", True)], ("lots", (), ((("q",), False, True),)))
        self.check([("x", 1, 1)], ["q"], [*ride, ("r2", "q", "x", True)], ("lots", (), ((("q",), True, False),)))
        self.check([("x", 1, 1)], ["q"], [*ride, ("r2", "q", "x", False)], ("lots", ("q",), ()))
        self.check([("x", 2, 1)], ["q"], [*ride, ("r2", "q", "x", True)], ("lots", ("q",), ()))

    def test_room_now_and_in_the_end(self):
        self.check([("x", 1, 0)], ["q"], [("r1", "q", "x", True)], ("lots", ("q",), ()))
        self.check([("x", 1, 1)], ["q"], [("r1", "x", "q", True)], ("lots", ("q",), ()))
        # Full now and in the end.
        self.check([("x", 2, 2)], ["q"], [("r1", "q", "x", True), ("r2", "x", "q", True)],
                   ("lots", (), ((("q",), True, False),)))

    def test_neither_bike_nor_room(self):
        self.check([], ["q", "p"], [("r1", "q", "p", True)], ("lots", (), ((("p", "q"), False, False),)))
        self.check([], ["q", "p"], [("r1", "q", "p", False)], ("lots", (), ((("p", "q"), False, True),)))

    def test_the_street(self):
        for ride in (("r1", "q", "street", True), ("r1", "street", "q", True)):
            self.check([], ["q", "p"], [ride], ("lots", ("q",), ()))
            self.check([], ["q", "p"], [ride, ("r2", "p", "q", True)], ("lots", ("p", "q"), ()))
        # It links nothing.
        self.check([], ["q", "p", "s"], [("r1", "q", "street", True), ("r2", "p", "s", True)],
                   ("lots", ("q",), ((("p", "s"), False, False),)))

    def test_order(self):
        rides = [("r1", "z", "c", True), ("r2", "d", "a", False), ("r3", "y", "b", True), ("r4", "street", "x", True),
                 ("r5", "street", "e", True)]
        self.check([], list("zyxabcde"[:6]), [rides[0], rides[2], rides[3]],
                   ("lots", ("x",), ((("b", "y"), False, False), (("c", "z"), False, False))))
        self.check([], ["e", "d", "a", "x"], [rides[4], rides[1], rides[3]],
                   ("lots", ("e", "x"), ((("a", "d"), False, True),)))

    def test_lots_without_border_stations(self):
        ring = [("r1", "x", "y", True), ("r2", "y", "x", True)]
        self.check([("x", 1, 0), ("y", 1, 0)], ["q"], ring, ("dead",))
        self.check([("x", 1, 1), ("y", 1, 1)], ["q"], ring, ("dead",))
        self.check([("x", 1, 1), ("y", 1, 1)], ["q"], [ring[0], ("r2", "y", "x", False)], NO_LOTS)
        self.check([("x", 1, 1), ("y", 1, 0)], ["q"], ring, NO_LOTS)
        self.check([("x", 1, 0), ("y", 1, 0)], ["q"], [*ring, ("r3", "street", "x", True)], NO_LOTS)
        # A dead lot is told even beside a living one.
        self.check([("x", 1, 0), ("y", 1, 0)], ["q"], [("r3", "street", "q", True), *ring], ("dead",))

    def test_stations_without_rides_count_nothing(self):
        self.check([("x", 1, 0), ("y", 1, 1)], ["q", "p"], [], NO_LOTS)


class JoinTest(unittest.TestCase):
    def test_ways_do_not_pass_the_border(self):
        first = note_of(District([], ["p", "q"], [("r1", "p", "q", True)]))
        second = note_of(District([], ["q", "s"], [("r1", "q", "s", True)]))
        joined = first + second
        self.assertIsInstance(joined, Note)
        self.assertEqual(joined.border, ("p", "q", "s"))
        self.assertEqual(joined.form[2], ("ways", (("p", "q"), ("q", "s")), (("p", "q"), ("q", "s"))))
        self.assertEqual(joined.close("q", 2, 0).form[2][1], (("p", "s"),))
        self.assertEqual(joined.form[1], (("p", -1), ("q", 0), ("s", 1)))

    def test_a_note_with_itself(self):
        note = note_of(part_a())
        twice = note + note
        self.assertEqual(twice.form[1], (("p", -2), ("q", 2)))
        many = note
        for _ in range(30):
            many = many + note
        self.assertEqual(many.form, ("fair", (("p", -31), ("q", 31)), ("ways", (("p", "q"),), ()),
                                     ("lots", (), ((("p", "q"), False, True),))))
        self.assertEqual(many.close("q", 99, 1).close("p", 40, 31).answer(), ("fair", True, True))

    def test_more_inner_stations_and_rides_than_a_district_can_have(self):
        stations = [(f"s{at}", 2, 1) for at in range(12)]
        rides = [(f"r{at}", f"s{at % 12}", "q", True) for at in range(12)]
        note = note_of(District(stations, ["q"], rides))
        self.assertEqual((note + note + note).close("q", 40, 0).answer(), ("fair", True, True))
        self.assertEqual((note + note + note).close("q", 35, 0).answer(), ("unfair",))

    def test_6_border_stations_and_more(self):
        first = note_of(District([], ["a", "b", "c", "d"], []))
        second = note_of(District([], ["d", "e", "f"], []))
        self.assertEqual((first + second).border, tuple("abcdef"))
        third = note_of(District([], ["g", "h", "a"], []))
        self.assertEqual(error_of(lambda: first + second + third), ("TooLarge", 8))
        self.assertEqual(error_of(lambda: first + second + note_of(District([], ["g"], []))), ("TooLarge", 7))
        unfair = note_of(District([("x", 1, 0)], ["g"], [("r", "x", "g", True)]))
        self.assertEqual(error_of(lambda: first + second + unfair), ("TooLarge", 7))

    def test_unfair_stays_unfair(self):
        unfair = note_of(District([("x", 1, 0)], ["q"], [("r", "x", "q", True)]))
        for joined in (unfair + note_of(part_a()), note_of(part_a()) + unfair):
            self.assertEqual((joined.border, joined.form), (("p", "q"), ("unfair",)))
            self.assertEqual(joined.close("p", 1, 1).close("q", 9, 0).answer(), ("unfair",))

    def test_lots_are_joined_at_border_stations(self):
        bike = note_of(District([("x", 1, 1)], ["p"], [("r1", "p", "x", True), ("r2", "x", "p", True)]))
        room = note_of(District([], ["p", "q"], [("r1", "p", "q", False)]))
        neither = note_of(District([], ["q", "s"], [("r1", "q", "s", True)]))
        self.assertEqual((room + neither).form[3], ("lots", (), ((("p", "q", "s"), False, True),)))
        self.assertEqual((bike + neither).form[3], ("lots", (), ((("p",), True, False), (("q", "s"), False, False))))
        for one, two, three in itertools.permutations([bike, room, neither]):
            self.assertEqual((one + two + three).form[3], ("lots", ("p", "q", "s"), ()))

    def test_like_the_joined_district(self):
        chance = random.Random(342)
        for first in random_districts(500, 343):
            second = random_district(chance, chance.sample(["q", "p", "s", "b"], chance.randint(0, 3)), "j")
            self.assertTrue(same(note_of(first + second), note_of(first) + note_of(second)))
            self.assertTrue(same(note_of(second + first), note_of(first) + note_of(second)))

    def test_notes_stay_as_they_were(self):
        first, second = note_of(part_a()), note_of(District([], ["q", "s"], [("r", "q", "s", True)]))
        before = (first.border, first.form, second.border, second.form)
        (first + second).close("q", 3, 1)
        first.close("p", 2, 1)
        self.assertEqual((first.border, first.form, second.border, second.form), before)


class CloseTest(unittest.TestCase):
    def test_errors_in_their_order(self):
        unfair = note_of(District([("x", 1, 0)], ["q", "p"], [("r", "x", "q", True)]))
        for note in (note_of(part_a()), unfair):
            for values, expected in ((("x", 0, 9), ("UnknownStation", "x")), (("", 0, 9), ("UnknownStation", "")),
                                     (("street", 0, 9), ("UnknownStation", "street")), (("p", 0, 9), ("BadNumber", 0)),
                                     (("p", 1000000, -1), ("BadNumber", 1000000)), (("p", 2, 3), ("BadNumber", 3)),
                                     (("p", 2, -1), ("BadNumber", -1)), (("p", 999999, 999999), None), (("q", 1, 0), None)):
                self.assertEqual(error_of(note.close, *values), expected)
        self.assertEqual(error_of(note_of(part_a()).close("p", 1, 1).close, "p", 1, 1), ("UnknownStation", "p"))

    def test_the_end_number_has_to_fit(self):
        note = note_of(part_a())
        for docks, bikes, fits in ((1, 0, False), (1, 1, True), (5, 5, True), (5, 0, False)):
            self.assertEqual(note.close("p", docks, bikes).form[0] == "fair", fits)
        for docks, bikes, fits in ((1, 0, True), (1, 1, False), (5, 5, False), (5, 4, True)):
            self.assertEqual(note.close("q", docks, bikes).form[0] == "fair", fits)

    def test_ways_lead_on(self):
        rides = [("r1", "a", "m", True), ("r2", "b", "m", False), ("r3", "m", "c", True), ("r4", "m", "d", True),
                 ("r5", "c", "d", True)]
        note = note_of(District([], ["m", "d", "c", "b", "a"], rides))
        self.assertEqual(note.close("m", 3, 0).form[2],
                         ("ways", (("a", "c"), ("a", "d"), ("b", "c"), ("b", "d"), ("c", "d")), (("c", "d"),)))
        self.assertEqual(note.close("m", 3, 3).form[2],
                         ("ways", (("c", "d"),), (("a", "c"), ("a", "d"), ("c", "d"))))
        self.assertEqual(note.close("m", 3, 1).form[2], ("ways", (("c", "d"),), (("c", "d"),)))

    def test_a_way_to_itself_becomes_a_ring(self):
        rides = [("r1", "p", "q", True), ("r2", "q", "p", True)]
        note = note_of(District([], ["p", "q"], rides))
        self.assertEqual(note.close("p", 1, 0).form[2], ("ways", (("q", "q"),), ()))
        self.assertEqual(note.close("p", 1, 1).form[2], ("ways", (), (("q", "q"),)))
        self.assertEqual(note.close("p", 1, 0).close("q", 1, 0).answer(), ("fair", False, False))
        self.assertEqual(note.close("p", 1, 0).close("q", 1, 1).answer(), ("fair", True, True))
        self.assertEqual(note.close("q", 1, 1).close("p", 1, 1).answer(), ("fair", False, False))
        self.assertEqual(note.close("q", 2, 1).close("p", 1, 1).answer(), ("fair", True, True))

    def test_like_the_closed_district(self):
        chance, compared = random.Random(344), 0
        for district in random_districts(500, 345, most_border=4):
            rows, _, _ = random_surrounding(chance, district)
            note = note_of(district)
            for row in rows:
                district, note = district.close(*row), note.close(*row)
                self.assertTrue(same(note_of(district), note))
                compared += 1
            self.assertEqual(note.answer(), answer_of(district.as_town()))
        self.assertGreater(compared, 600)


class AnswerTest(unittest.TestCase):
    def test_open_border(self):
        self.assertEqual(error_of(note_of(part_a()).answer), ("OpenBorder", "p"))
        self.assertEqual(error_of(note_of(District([], ["z", "b", "y"], [])).answer), ("OpenBorder", "b"))
        unfair = note_of(District([("x", 1, 0)], ["q"], [("r", "x", "q", True)]))
        self.assertEqual(error_of(unfair.answer), ("OpenBorder", "q"))

    def test_answers(self):
        ring = [("r1", "a", "b", True), ("r2", "b", "a", True)]
        for town, expected in ((Town.empty(), ("fair", True, True)), (dry(), ("fair", False, True)),
                               (brim(), ("fair", False, True)), (dry().without(["r4"]), ("fair", True, True)),
                               (dry().without(["r3"]), ("unfair",)), (Town([("a", 1, 0), ("b", 1, 0)], ring),
                                                                      ("fair", False, False))):
            self.assertEqual(answer_of(town), expected)
            self.assertEqual(note_of(District(list(town.stations), [], list(town.rides))).answer(), expected)

    def test_answers_against_all_orders(self):
        seen = set()
        for town in random_towns(200, 346) + fair_towns(300, 347):
            self.assertEqual(answer_of(town), by_search(town))
            seen.add(answer_of(town))
        self.assertEqual(len(seen), 4)

    def test_the_order_of_joining_and_closing_does_not_count(self):
        chance, seen = random.Random(348), set()
        for _ in range(300):
            border = ["q", "p", "b"]
            pieces = [random_district(chance, chance.sample(border, 2), letter, most_inner=2, most_rides=3)
                      for letter in "ijk"]
            open_now = sorted(set(pieces[0].border + pieces[1].border + pieces[2].border))
            rows = random_surrounding(chance, pieces[0] + pieces[1] + pieces[2])[0]
            expected = None
            for order in itertools.permutations([note_of(piece) for piece in pieces]):
                rest = chance.sample(rows, len(rows))
                # A station that only the first piece has can be closed before the others are joined.
                note = order[0]
                for row in list(rest):
                    if row[0] in note.border and not any(row[0] in other.border for other in order[1:]):
                        note = note.close(*row)
                        rest.remove(row)
                note = note + (order[1] + order[2]) if chance.random() < 0.5 else note + order[1] + order[2]
                for row in rest:
                    note = note.close(*row)
                expected = note.answer() if expected is None else expected
                self.assertEqual(note.answer(), expected)
            self.assertEqual(len(open_now), len(rows))
            seen.add(expected)
        self.assertEqual(len(seen), 4)

    def test_a_town_that_is_cut_gives_its_answers_back(self):
        chance = random.Random(349)
        for town in random_towns(200, 350) + fair_towns(300, 351):
            names = [ride[0] for ride in town.rides if chance.random() < 0.5]
            first, second, between = cut_town(town, names)
            note = note_of(first) + note_of(second)
            for row in chance.sample(between, len(between)):
                note = note.close(*row)
            self.assertEqual(note.answer(), answer_of(town))

    def test_in_random_surroundings(self):
        chance = random.Random(352)
        for district in random_districts(300, 353, most_rides=4):
            rows, stations, rides = random_surrounding(chance, district)
            note = note_of(district) + note_of(District(stations, district.border, rides))
            for row in chance.sample(rows, len(rows)):
                note = note.close(*row)
            town = placed(district, (rows, stations, rides))
            self.assertEqual(note.answer(), answer_of(town))
            if town.passes() <= 6:
                self.assertEqual(note.answer(), by_search(town))
            self.assertEqual(note.answer() == ("unfair",), any(not 0 <= end_numbers(town)[name] <= docks
                                                               for name, docks, _ in town.stations))


if __name__ == "__main__":
    unittest.main()
