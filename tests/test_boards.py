"""The board ([79])."""

import unittest

from helper import brim, dry, end_numbers, large_town, random_towns
from ridesonce.boards import board
from ridesonce.ends import ends
from ridesonce.towns import Town


class BoardTest(unittest.TestCase):
    def test_examples(self):
        self.assertEqual(board(Town([("a", 2, 0)], [])), "a              0       2       0  empty\n")
        self.assertEqual(board(Town.empty()), "")

    def test_each_word(self):
        stations = [("e", 2, 1), ("f", 2, 1), ("b", 2, 1), ("under", 2, 0), ("abcdefgh", 999999, 999999)]
        rides = [("r1", "e", "f", True), ("r2", "under", "abcdefgh", False)]
        self.assertEqual(board(Town(stations, rides)),
                         "e              1       2       0  empty\n"
                         "f              1       2       2  full\n"
                         "b              1       2       1  between\n"
                         "under          0       2      -1  unfair\n"
                         "abcdefgh  999999  999999 1000000  unfair\n")

    def test_wide_numbers(self):
        stations = [("a", 999999, 0), ("b", 999999, 123456)]
        rides = [(f"r{at}", "a", "street", True) for at in range(12)]
        self.assertEqual(board(Town(stations, rides)),
                         "a              0  999999     -12  unfair\n"
                         "b         123456  999999  123456  between\n")

    def test_full_and_just_beyond(self):
        for docks, bikes, word in ((3, 2, "full"), (3, 3, "unfair"), (3, 1, "between"), (1, 0, "full")):
            text = board(Town([("a", docks, bikes)], [("r", "street", "a", True)]))
            self.assertEqual(text.split(), ["a", str(bikes), str(docks), str(bikes + 1), word])

    def test_columns(self):
        for town in [dry(), brim(), large_town(), *random_towns(100, 411)]:
            lines = board(town).split("\n")
            self.assertEqual(lines.pop(), "")
            self.assertEqual(len(lines), len(town.stations))
            for line, (name, docks, bikes) in zip(lines, town.stations):
                end = end_numbers(town)[name]
                self.assertEqual(end, ends(town)[name])
                self.assertEqual([line[:8], line[8:16], line[16:24], line[24:32], line[32:34]],
                                 [name.ljust(8), str(bikes).rjust(8), str(docks).rjust(8), str(end).rjust(8), "  "])
                word = "unfair" if not 0 <= end <= docks else {0: "empty", docks: "full"}.get(end, "between")
                self.assertEqual(line[34:], word)


if __name__ == "__main__":
    unittest.main()
