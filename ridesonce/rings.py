"""Rings of rides that can wait for one another for ever ([20], [21])."""

from ridesonce.ends import empties, fulls
from ridesonce.needs import need_fair, need_small
from ridesonce.towns import STREET

KINDS = ("empty", "full")


def rides_of_kind(rides, kind):
    """The rides that can be in rings of the kind: those between stations, for "full" the kept ones."""
    between = [ride for ride in rides if STREET not in ride[1:3]]
    return between if kind == "empty" else [ride for ride in between if ride[3]]


def rides_between(rides, kind, stations):
    """The rides that can be in rings of the kind and run between two of the stations."""
    return [ride for ride in rides_of_kind(rides, kind) if ride[1] in stations and ride[2] in stations]


def rides_inside(town, kind):
    """The rides that bad rings of the kind consist of: those between two stations of that end."""
    return rides_between(town.rides, kind, empties(town) if kind == "empty" else fulls(town))


def rides_of_both_kinds(town):
    """The rides that can be left: all that stand inside one kind or the other, in town order."""
    found = [ride for kind in KINDS for ride in rides_inside(town, kind)]
    return [ride for ride in town.rides if ride in found]


def is_balanced(rides):
    """Whether at each place as many of the rides end as start."""
    return sorted([ride[1] for ride in rides]) == sorted([ride[2] for ride in rides])


def is_bad_ring(town, kind, names):
    """Whether the names are a bad ring of the kind, beginning at any of its rides."""
    if kind not in KINDS:
        return False
    rides = {ride[0]: ride for ride in rides_inside(town, kind)}
    if len(names) < 2 or not all([name in rides for name in names]):
        return False
    starts = [rides[name][1] for name in names]
    goals = [rides[name][2] for name in names]
    return goals == starts[1:] + starts[:1] and len(set(starts)) == len(starts)


def ways_from(rides, place):
    """A dict from each place that can be reached to a shortest row of rides that leads there."""
    ways = {place: []}
    fresh = [place]
    while len(fresh) > 0:
        here = fresh.pop(0)
        for ride in rides:
            if ride[1] == here and ride[2] not in ways:
                ways[ride[2]] = [*ways[here], ride]
                fresh.append(ride[2])
    return ways


def ring_with(rides, first):
    """The names of a shortest ring of the rides that begins with the first, or None."""
    back = ways_from(rides, first[2]).get(first[1])
    return None if back is None else [first[0]] + [ride[0] for ride in back]


def first_bad_ring(town):
    """The kind and the names of a bad ring, an empty one if there is one, or None."""
    for kind in KINDS:
        rides = rides_inside(town, kind)
        for first in rides:
            ring = ring_with(rides, first)
            if ring is not None:
                return (kind, ring)
    return None


def bad_ring_with(town, name):
    """The kind and the names of a bad ring that begins with the ride, or None."""
    for kind in KINDS:
        rides = rides_inside(town, kind)
        for first in rides:
            if first[0] == name:
                ring = ring_with(rides, first)
                return None if ring is None else (kind, ring)
    return None


def _can_follow(rides, row, at):
    # A station is the start of at most one ride of a ring.
    return rides[row[-1]][2] == rides[at][1] and rides[at][1] not in [rides[k][1] for k in row]


def all_rings(rides):
    """All rings of the rides as lists of names, in the order of bad_rings.

    Rows that begin with their first position grow by one ride at a time. They
    are in order before they grow, and so they are in order behind it.
    """
    rings = []
    rows = [[at] for at in range(len(rides))]
    while len(rows) > 0:
        rings = rings + [row for row in rows if rides[row[-1]][2] == rides[row[0]][1]]
        rows = [
            [*row, at] for row in rows for at in range(row[0] + 1, len(rides)) if _can_follow(rides, row, at)
        ]
    return [[rides[at][0] for at in ring] for ring in rings]


def bad_rings(town):
    """Yield every bad ring once, as a tuple of the kind and the names."""
    need_fair(town)
    need_small(town)
    for kind in KINDS:
        for ring in all_rings(rides_inside(town, kind)):
            yield (kind, ring)
