"""Towns as text ([9], [10])."""

import unittest

from helper import dry, error_of, random_towns, rows
from ridesonce.notation import read_town, write_town
from ridesonce.towns import Town

DRY_TEXT = "station a 2 0\nstation b 2 0\nstation c 2 1\nride r1 a b\nride r2 b a\nride r3 c a\nride r4 a c\n"


def line_of(text):
    """The number of the line that is wrong."""
    name, line = error_of(read_town, text)
    assert name == "BadLine"
    return line


class WriteTest(unittest.TestCase):
    def test_all_stations_then_all_rides(self):
        self.assertEqual(write_town(dry()), DRY_TEXT)

    def test_kept_unkept_and_street(self):
        town = Town([("b", 999999, 10), ("a", 1, 0)],
                    [("z", "street", "a", True), ("y", "a", "b", False), ("x", "b", "street", True)])
        text = "station b 999999 10\nstation a 1 0\nride z street a\nride y a b unkept\nride x b street\n"
        self.assertEqual(write_town(town), text)

    def test_empty_town(self):
        self.assertEqual(write_town(Town.empty()), "")


class ReadTest(unittest.TestCase):
    def test_there_and_back(self):
        for town in random_towns(300):
            self.assertEqual(rows(read_town(write_town(town))), rows(town))

    def test_empty_text(self):
        self.assertEqual(rows(read_town("")), ((), ()))

    def test_stations_may_follow_rides(self):
        text = "station b 1 1\nride r b street\nstation a 2 1\nride q a b unkept\n"
        stations = (("b", 1, 1), ("a", 2, 1))
        self.assertEqual(rows(read_town(text)), (stations, (("r", "b", "street", True), ("q", "a", "b", False))))

    def test_ride_before_its_stations(self):
        self.assertEqual(line_of("station a 2 0\nride r1 a b\nstation b 2 0\n"), 2)
        self.assertEqual(line_of("ride r1 street b\nstation b 2 0\n"), 1)

    def test_no_form(self):
        for line in ("", " ", "station", "station d", "station d 2", "station d 2 0 0", "Station d 2 0", "ride",
                     "ride r a", "ride r a b kept", "ride r a b unkept x", "ride r a b Unkept", "ride r a b unkept ",
                     "stop", "street d 2 0", "ride d 2 0", "#", "rides r a b"):
            self.assertEqual(line_of(f"station a 2 0\nstation b 2 0\n{line}\nstation c 2 0\n"), 3, line)

    def test_single_spaces_alone(self):
        for line in (" station c 2 0", "station c 2 0 ", "station  c 2 0", "station c  2 0", "station c 2  0",
                     " ride r a b", "ride r a b ", "ride  r a b", "ride r  a b", "ride r a  b", "ride r a b  unkept",
                     "ride r a b  "):
            self.assertEqual(line_of(f"station a 2 0\nstation b 2 0\n{line}\n"), 3, line)

    def test_numbers(self):
        for number in ("00", "01", "+1", "-0", "-1", "1000000", "0000001", "1.", "1e1", "x", "", "1_0", "000000"):
            self.assertEqual(line_of(f"station a {number} 0\n"), 1, number)
            self.assertEqual(line_of(f"station a 999999 {number}\n"), 1, number)
        self.assertEqual(read_town("station a 999999 999999\n").stations, (("a", 999999, 999999),))
        self.assertEqual(read_town("station a 100 10\n").stations, (("a", 100, 10),))

    def test_lines_that_would_raise_an_error_in_a_town(self):
        start = "station a 2 0\nstation b 2 0\nride r a b\n"
        for line in ("station c 0 0", "station c 2 3", "station a 2 0", "station C 2 0", "station street 2 0",
                     "station abcdefghi 2 0", "ride r b a", "ride R a b", "ride street a b", "ride q a x",
                     "ride q x a", "ride q a a", "ride q street street", "ride q a street unkept",
                     "ride q street a unkept"):
            self.assertEqual(line_of(f"{start}{line}\nx\n"), 4, line)

    def test_too_many_stations_and_rides(self):
        stations = "".join(f"station s{at} 2 0\n" for at in range(12))
        rides = "".join(f"ride r{at} s0 s1\n" for at in range(24))
        self.assertEqual(len(read_town(stations + rides).rides), 24)
        self.assertEqual(line_of(stations + "station s12 2 0\n"), 13)
        self.assertEqual(line_of(stations + rides + "ride r24 s0 s1\n"), 37)
        self.assertEqual(line_of(stations + rides + "station s12 2 0\n"), 37)

    def test_last_line_without_newline(self):
        self.assertEqual(line_of("station a 2 0"), 1)
        self.assertEqual(line_of("station a 2 0\nstation b 2 0"), 2)
        self.assertEqual(line_of("station a 2 0\n "), 2)

    def test_empty_lines(self):
        self.assertEqual(line_of("\n"), 1)
        self.assertEqual(line_of("station a 2 0\n\n"), 2)
        self.assertEqual(line_of("station a 2 0\n\nstation b 2 0\n"), 2)

    def test_first_wrong_line(self):
        self.assertEqual(line_of("station a 2 0\nx\n\nstation a 2 0\ny"), 2)
        self.assertEqual(line_of("station a 2 3\nx"), 1)


if __name__ == "__main__":
    unittest.main()
