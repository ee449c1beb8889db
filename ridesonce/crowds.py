"""Any number of riders of each sort ([38]), and crowds that bring a ring to its ends ([39])."""

from ridesonce.flows import cheapest_flow
from ridesonce.towns import STREET, Town, check_count

# Not the names of stations.
SOURCE = "+"
SINK = "-"


def crowd_ends(town, crowd):
    """The crowd's end number of each station, as a dict in town order."""
    numbers = {name: bikes for name, _, bikes in town.stations}
    for name, start, goal, _ in town.rides:
        if start != STREET:
            numbers[start] -= crowd[name]
        if goal != STREET:
            numbers[goal] += crowd[name]
    return numbers


def crowd_town(town, crowd):
    """The town in which each rider of the crowd has a ride of his own."""
    check_count(sum([crowd[ride[0]] for ride in town.rides]), Town.MOST_RIDES)
    rides = []
    for name, start, goal, kept in town.rides:
        for _ in range(crowd[name]):
            rides.append((f"c{len(rides) + 1}", start, goal, kept))
    return Town(town.stations, rides)


def _arcs_to_ends(town, kind, places):
    """Arcs for the bikes that have to leave the places, for kind "full" for the free docks, and for where they go.

    Free docks go through a ride from its goal to its start. The arcs of the
    rides come first.
    """
    many = sum([docks for _, docks, _ in town.stations])
    arcs = [(start, goal, many, 1) if kind == "empty" else (goal, start, many, 1) for _, start, goal, _ in town.rides]
    for name, docks, bikes in town.stations:
        here, beside = (bikes, docks - bikes) if kind == "empty" else (docks - bikes, bikes)
        arcs.append((SOURCE, name, here, 0) if name in places else (name, SINK, beside, 0))
    return [*arcs, (STREET, SINK, many, 0)]


def crowd_with_ring(town, kind, ring):
    """A fair crowd with the fewest riders that has each sort of the ring and brings it to its ends, or None.

    One rider of each sort of the ring changes no end number, so those stand
    beside the riders who bring the stations of the ring to their ends.
    """
    arcs = _arcs_to_ends(town, kind, [town.ride(name)[1] for name in ring])
    flow = cheapest_flow(arcs, SOURCE, SINK)
    if any([arc[0] == SOURCE and number < arc[2] for arc, number in zip(arcs, flow)]):
        return None
    return {ride[0]: number + 1 if ride[0] in ring else number for ride, number in zip(town.rides, flow)}
