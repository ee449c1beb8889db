"""Whether everybody rides in every order, whatever the numbers of riders ([39] to [41])."""

from ridesonce.crowds import crowd_with_ring
from ridesonce.knots import knots, lightest_ring
from ridesonce.rings import KINDS, rides_of_kind, ways_from
from ridesonce.towns import STREET

# Not the name of a ride.
NEW = "+"


def _rival(stations, rides, kind, knot):
    """The free docks that the bikes of the knot can go to, or the bikes that its free docks can; None with the street.

    Free docks go through a ride from its goal to its start.
    """
    rows = rides if kind == "empty" else [(name, goal, start, kept) for name, start, goal, kept in rides]
    ways = ways_from(rows, knot[0])
    if STREET in ways:
        return None
    return sum([docks - bikes if kind == "empty" else bikes for name, docks, bikes in stations if name in ways])


def _rows_and_rings(stations, rides):
    """Each row of tight_rows, with a ring that has its docks."""
    docks = {name: number for name, number, _ in stations}
    found = []
    for kind in KINDS:
        inner = rides_of_kind(rides, kind)
        for knot in knots([station[0] for station in stations], inner):
            number, ring = lightest_ring([ride for ride in inner if ride[1] in knot and ride[2] in knot], docks)
            found.append(((kind, knot, number, _rival(stations, rides, kind, knot)), ring))
    return found


def _holds(row):
    _, _, docks, rival = row
    return rival is not None and docks > rival


def tight_rows(town):
    """For each knot its kind, its stations, the fewest docks of a ring in it, and the rival."""
    return [row for row, _ in _rows_and_rings(town.stations, town.rides)]


def always(town):
    """That every fair crowd rides in every order, with the numbers that show it, or a crowd of which a ring is left."""
    found = _rows_and_rings(town.stations, town.rides)
    for row, ring in found:
        if not _holds(row):
            return ("no", row[0], ring, crowd_with_ring(town, row[0], ring))
    return ("yes", [row for row, _ in found])


def _holds_with(town, start, goal):
    """Whether always answers "yes" with one more kept ride, which may be the 25th."""
    rides = [*town.rides, (NEW, start, goal, True)]
    return all([_holds(row) for row, _ in _rows_and_rings(town.stations, rides)])


def free_pairs(town):
    """The pairs of places between which there may be one more kept ride, so that always answers "yes"."""
    places = [station[0] for station in town.stations] + [STREET]
    pairs = [(start, goal) for start in places for goal in places if start != goal]
    return [(start, goal) for start, goal in pairs if _holds_with(town, start, goal)]


def bike_range(town):
    """The least and the most bikes for which always answers "yes"; None if that is not told by their number alone."""
    names = [station[0] for station in town.stations]
    fewest = {kind: docks for kind, knot, docks, _ in tight_rows(town) if knot == names}
    if "full" not in fewest or any([STREET in ride[1:3] for ride in town.rides]):
        return None
    return (1 + sum([docks for _, docks, _ in town.stations]) - fewest["empty"], fewest["full"] - 1)
