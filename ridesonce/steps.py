"""The steps of the riders ([11] to [13])."""

from ridesonce.errors import CannotGo
from ridesonce.towns import STREET, Town


def _is_able(town, ride):
    _, start, goal, kept = ride
    has_bike = start == STREET or town.bikes(start) > 0
    has_dock = not kept or goal == STREET or town.free(goal) > 0
    return has_bike and has_dock


def able(town):
    """The names of the able rides."""
    return [ride[0] for ride in town.rides if _is_able(town, ride)]


def _rides_after(town, ride):
    name, _, goal, kept = ride
    if kept:
        return [row for row in town.rides if row[0] != name]
    on_road = (name, STREET, goal, True)
    return [on_road if row[0] == name else row for row in town.rides]


def go(town, name):
    """The town after the step of a ride."""
    ride = town.ride(name)
    if not _is_able(town, ride):
        raise CannotGo(name)
    _, start, goal, kept = ride
    changes = {start: -1, goal: 1} if kept else {start: -1}
    stations = [(place, docks, bikes + changes.get(place, 0)) for place, docks, bikes in town.stations]
    return Town(stations, _rides_after(town, ride))


def run(town, order):
    """The town after the steps of the rides in the list."""
    for name in order:
        town = go(town, name)
    return town


def is_stopped(town):
    """Whether no ride is able."""
    return len(able(town)) == 0


def is_stuck(town):
    """Whether no ride is able although the town has a ride."""
    return is_stopped(town) and len(town.rides) > 0
