"""The greatest number of riders who can be left ([35], [36])."""

from ridesonce.ends import empties, fulls
from ridesonce.flows import cheapest_rows, pushed
from ridesonce.needs import need_fair
from ridesonce.rings import is_balanced, rides_of_both_kinds

# Not the name of a station.
OUTSIDE = "+"


def _stations_of_ends(town):
    """The stations that are empty or full in the end."""
    found = empties(town) + fulls(town)
    return [station[0] for station in town.stations if station[0] in found]


def _arcs(rides):
    # Each ride that is taken counts one more, which is a price of one less.
    return [(start, goal, 1, -1) for _, start, goal, _ in rides]


def _most_left(rides):
    """A flow that takes the most rides of which as many end as start at each station.

    With one more ride at hand, it is enough to ask for one row that brings the
    bike back from its goal to its start.
    """
    arcs = _arcs(rides)
    flow = []
    for at, (start, goal, _, _) in enumerate(arcs):
        flow = [*flow, 0]
        price, row = cheapest_rows(arcs[:at], flow, goal).get(start, (1, []))
        if price < 1:
            flow = pushed(flow, [*row, (at, 1)], 1)
    return flow


def _heights(stations, rides, flow):
    """Heights that only the rides taken keep from rising; then the sum is their number."""
    arcs = _arcs(rides) + [(OUTSIDE, station, 1, 0) for station in stations]
    rows = cheapest_rows(arcs, flow + [0 for _ in stations], OUTSIDE)
    return {station: -rows[station][0] for station in stations}


def worst(town):
    """The greatest number of rides that can be left, such rides, and heights that show that no more can be."""
    need_fair(town)
    rides = rides_of_both_kinds(town)
    flow = _most_left(rides)
    names = [ride[0] for at, ride in enumerate(rides) if flow[at] == 1]
    return (len(names), names, _heights(_stations_of_ends(town), rides, flow))


def _sum_of(rides, heights):
    return sum([max(0, 1 + heights[ride[1]] - heights[ride[2]]) for ride in rides])


def judge_worst(town, answer):
    """Whether the answer shows what it claims."""
    need_fair(town)
    number, names, heights = answer
    rides = rides_of_both_kinds(town)
    left = [ride for ride in rides if ride[0] in names]
    # Each name once, and no name but those of such rides.
    if len(names) != number or len(left) != len(names):
        return False
    stations = _stations_of_ends(town)
    if len(heights) != len(stations) or not all([station in heights for station in stations]):
        return False
    return is_balanced(left) and _sum_of(rides, heights) == number
