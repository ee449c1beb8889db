"""Knots of stations, and their rings with the fewest docks ([40])."""

from ridesonce.flows import cheapest_rows
from ridesonce.rings import ways_from


def knots(names, rides):
    """The largest sets of at least two stations that can be reached from one another, ordered by their first ones."""
    ways = {name: ways_from(rides, name) for name in names}
    found = []
    for name in names:
        knot = [other for other in names if other in ways[name] and name in ways[other]]
        if len(knot) > 1 and knot[0] == name:
            found.append(knot)
    return found


def lightest_ring(rides, docks):
    """The least sum of the docks of the stations of a ring, and such a ring; each of the rides is in a ring."""
    arcs = [(start, goal, 1, docks[goal]) for _, start, goal, _ in rides]
    best = None
    for name, start, goal, _ in rides:
        price, row = cheapest_rows(arcs, [0 for _ in arcs], goal)[start]
        if best is None or docks[goal] + price < best[0]:
            best = (docks[goal] + price, [name] + [rides[at][0] for at, _ in row])
    return best
