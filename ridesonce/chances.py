"""How many orders leave whom, and how often, if each step is picked by chance ([37])."""

from math import gcd

from ridesonce.leftover import LeftFamily
from ridesonce.needs import need_fair, need_small
from ridesonce.steps import able, go, is_stopped


def _whole():
    """What all orders weigh together: at each of at most 8 steps it is split among 1 to 8 rides, always evenly."""
    return 840 ** 8


def _behind(layer):
    """The towns one step behind those of the layer, with their numbers of orders and their weights.

    The rides that a town still has tell where its bikes are, so towns with equal rides are one.
    """
    after = {}
    for town, count, weight in layer:
        names = able(town)
        for name in names:
            there = go(town, name)
            _, counted, weighed = after.get(there.rides, (there, 0, 0))
            after[there.rides] = (there, counted + count, weighed + weight // len(names))
    return list(after.values())


def _stops(town):
    """Each list that is left, with the number of final orders that leave it and their weight."""
    need_fair(town)
    need_small(town)
    stopped = []
    layer = [(town, 1, _whole())]
    while len(layer) > 0:
        stopped = stopped + [row for row in layer if is_stopped(row[0])]
        layer = _behind(layer)
    return [([ride[0] for ride in last.rides], count, weight) for last, count, weight in stopped]


def _lowest(top, bottom):
    divisor = gcd(top, bottom)
    return (top // divisor, bottom // divisor)


def order_counts(town):
    """Each list that can be left, with the number of final orders that leave exactly these rides."""
    counts = {tuple(names): count for names, count, _ in _stops(town)}
    return [(names, counts[names]) for names in LeftFamily(town)]


def chance(town):
    """The chance that everybody rides, as a fraction in lowest terms."""
    return _lowest(sum([weight for names, _, weight in _stops(town) if len(names) == 0]), _whole())


def mean_left(town):
    """The average number of riders who are left, as a fraction in lowest terms."""
    return _lowest(sum([weight * len(names) for names, _, weight in _stops(town)]), _whole())
