"""A station and a ride may have the same name ([6]): no answer takes one for the other."""

import unittest

from helper import fair_towns, names_of, random_towns, ring_towns
from ridesonce.chances import chance, mean_left
from ridesonce.cheapest import cheapest_mends, judge_mends
from ridesonce.districts import District
from ridesonce.eitherway import either
from ridesonce.leftover import LeftFamily
from ridesonce.mends import mended
from ridesonce.notes import note_of
from ridesonce.sorts import bike_range
from ridesonce.standings import can_stand
from ridesonce.towns import Town
from test_mends import mends_of
from test_untouched import ANSWERS, FAIR_ANSWERS


def new_names(town):
    """For each ride another name: those of the stations first, backwards."""
    names = [station[0] for station in town.stations][::-1] + [f"a{at}" for at in range(24)]
    return dict(zip(names_of(town), names))


def renamed(value, names):
    """The same value with other names of rides."""
    if isinstance(value, str):
        return names.get(value, value)
    if isinstance(value, (list, tuple)):
        return type(value)(renamed(part, names) for part in value)
    if isinstance(value, dict):
        return {renamed(key, names): renamed(part, names) for key, part in value.items()}
    return value


def twin_of(town):
    """The town in which rides have the names of stations."""
    names = new_names(town)
    return Town(town.stations, [(names[ride[0]], *ride[1:]) for ride in town.rides])


class TwinsTest(unittest.TestCase):
    def check(self, town, answers):
        twin, names = twin_of(town), new_names(town)
        for answer in answers:
            self.assertEqual(answer(twin), renamed(answer(town), names))

    def test_any_town(self):
        for town in random_towns(150, 201):
            self.check(town, [*ANSWERS, bike_range])

    def test_fair_towns(self):
        for town in fair_towns(100, 202) + ring_towns(30, 203):
            answers = [answer for answer in FAIR_ANSWERS if "mends_of" not in answer.__code__.co_names]
            self.check(town, [*answers, chance, mean_left])

    def test_lists_of_names(self):
        for town in random_towns(150, 204):
            twin, names = twin_of(town), new_names(town)
            part = names_of(town)[::2]
            unkept = [ride[0] for ride in town.rides if not ride[3] and ride[0] not in part]
            for call, values in ((either, [part]), (can_stand, [part, unkept]), (can_stand, [part, []])):
                told = call(twin, *renamed(values, names))
                self.assertEqual(told, renamed(call(town, *values), names))

    def test_mends(self):
        for town in ring_towns(60, 205) + fair_towns(60, 206):
            twin, names = twin_of(town), new_names(town)
            prices = {mend: at for at, mend in enumerate(mends_of(town))}
            prices_of_twin = {(word, names[name] if word == "unkept" else name): price
                              for (word, name), price in prices.items()}
            answer = cheapest_mends(town, prices)
            told = cheapest_mends(twin, prices_of_twin)
            self.assertEqual(told, renamed(answer, names))
            self.assertTrue(judge_mends(twin, prices_of_twin, told))
            self.assertEqual(mended(twin, told[2]).rides, renamed(mended(town, answer[2]).rides, names))

    def test_notes(self):
        for town in random_towns(100, 208):
            for many in (0, 1, 2):
                values = [list(town.stations[many:]), [station[0] for station in town.stations[:many]]]
                one, two = District(*values, list(town.rides)), District(*values, list(twin_of(town).rides))
                self.assertEqual(note_of(one).form, note_of(two).form)

    def test_families(self):
        for town in ring_towns(30, 207):
            family, names = LeftFamily(town), new_names(town)
            other = LeftFamily(twin_of(town))
            self.assertEqual(list(other), renamed(list(family), names))
            for name in names_of(town):
                self.assertEqual(other.holding(names[name]), family.holding(name))


if __name__ == "__main__":
    unittest.main()
