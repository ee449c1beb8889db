"""Docks and rides that are mended ([43])."""

from ridesonce.errors import NotKept
from ridesonce.towns import STREET, Town

RESERVE = "reserve"
SPARE = "spare"
UNKEPT = "unkept"


def mends_against(town, kind, ring):
    """All mends that break a bad ring of the kind."""
    stations = [town.ride(name)[1] for name in ring]
    if kind == "empty":
        return [(RESERVE, station) for station in stations]
    return [(SPARE, station) for station in stations] + [(UNKEPT, name) for name in ring]


def _with_dock(town, station, bikes):
    """The town with one more dock at a station, with so many bikes in it."""
    changed = (station, town.docks(station) + 1, town.bikes(station) + bikes)
    return Town([changed if row[0] == station else row for row in town.stations], town.rides)


def _with_unkept(town, name):
    _, start, goal, _ = town.ride(name)
    if STREET in (start, goal):
        raise NotKept(name)
    changed = (name, start, goal, False)
    return Town(town.stations, [changed if row[0] == name else row for row in town.rides])


def mended(town, mends):
    """The town after the mends, one after another."""
    for word, name in mends:
        if word == UNKEPT:
            town = _with_unkept(town, name)
        else:
            town = _with_dock(town, name, 1 if word == RESERVE else 0)
    return town
