"""Deeds: what changes the town at a desk, and how it is written ([71], [75]).

A deed is a tuple of its word and its values. It changes the town and the tuple
of the names of those who are on the road.
"""

from ridesonce.errors import OnRoad
from ridesonce.notation import is_number
from ridesonce.steps import go
from ridesonce.towns import STREET, Town, is_name


def _with_station(town, road, name, docks, bikes):
    return (Town([*town.stations, (name, docks, bikes)], town.rides), road)


def _with_booking(town, road, name, start, goal, kept):
    return (town.with_ride(name, start, goal, kept=kept), road)


def _cancelled(town, road, name):
    if name in road:
        raise OnRoad(name)
    return (town.without([name]), road)


def _gone(town, road, name):
    after = go(town, name)
    rest = tuple([other for other in road if other != name])
    return (after, rest if town.ride(name)[3] else (*road, name))


def _brought(town, road, name):
    return (town.with_bikes(name, town.bikes(name) + 1), road)


def _taken(town, road, name):
    return (town.with_bikes(name, town.bikes(name) - 1), road)


DEEDS = {
    "station": _with_station,
    "book": _with_booking,
    "cancel": _cancelled,
    "go": _gone,
    "bring": _brought,
    "take": _taken,
}
DEEDS_OF_ONE = ("cancel", "go", "bring", "take")


def after_deed(town, road, deed):
    """The town after a deed, and who is on the road then; raises the errors of the deed."""
    action = DEEDS[deed[0]]
    values = deed[1:]
    return action(town, road, *values)


def write_deed(deed):
    """The command of a deed."""
    if deed[0] == "book":
        _, name, start, goal, kept = deed
        return f"book {name} {start} {goal}" if kept else f"book {name} {start} {goal} unkept"
    return " ".join([str(part) for part in deed])


def _read_booking(words):
    """The deed of a booking, or None."""
    names = words[1:4]
    if len(names) < 3 or not all([is_name(name) or name == STREET for name in names]):
        return None
    if len(words) == 4 or words[4:] == ["unkept"]:
        return ("book", *names, len(words) == 4)
    return None


def read_deed(command):
    """The deed of a command, or None if it is none."""
    words = command.split(" ")
    if words[0] == "book":
        return _read_booking(words)
    if len(words) < 2 or not (is_name(words[1]) or words[1] == STREET):
        return None
    if words[0] == "station" and len(words) == 4 and is_number(words[2]) and is_number(words[3]):
        return ("station", words[1], int(words[2]), int(words[3]))
    if words[0] in DEEDS_OF_ONE and len(words) == 2:
        return (words[0], words[1])
    return None
