"""Districts: parts of a town that are told before the rest is known ([51], [52], [57])."""

from ridesonce.errors import Duplicate, OpenBorder, UnknownStation
from ridesonce.lots import places_of
from ridesonce.towns import Town, check_count, check_new_name, checked_rides, checked_stations

MOST_BORDER = 6


def _check_counts(inner, border, rides):
    check_count(inner, Town.MOST_STATIONS)
    check_count(border, MOST_BORDER)
    check_count(rides, Town.MOST_RIDES)


def _checked_places(stations, border):
    """The names of the inner and the border stations; raises the first error of one."""
    names = list(checked_stations(stations))
    for name in border:
        check_new_name(name, names)
        names.append(name)
    return names


def _check_apart(names, taken):
    for name in names:
        if name in taken:
            raise Duplicate(name)


def _names(rows):
    return [row[0] for row in rows]


class District:
    """Inner stations, the names of border stations, and rides; a district never changes."""

    def __init__(self, stations, border, rides):
        _check_counts(len(stations), len(border), len(rides))
        checked_rides(rides, _checked_places(stations, border))
        self.stations = tuple([tuple(station) for station in stations])
        self.border = tuple(border)
        self.rides = tuple([tuple(ride) for ride in rides])

    def __add__(self, other):
        new = [name for name in other.border if name not in self.border]
        stations = [*self.stations, *other.stations]
        border = [*self.border, *new]
        rides = [*self.rides, *other.rides]
        _check_counts(len(stations), len(border), len(rides))
        _check_apart(_names(other.stations), [*_names(self.stations), *self.border])
        _check_apart(other.border, _names(self.stations))
        _check_apart(_names(other.rides), _names(self.rides))
        return District(stations, border, rides)

    def close(self, name, docks, bikes):
        """The district in which a border station has become the last inner station."""
        if name not in self.border:
            raise UnknownStation(name)
        border = [other for other in self.border if other != name]
        return District([*self.stations, (name, docks, bikes)], border, self.rides)

    def as_town(self):
        """The town of a district without border stations."""
        if len(self.border) > 0:
            raise OpenBorder(self.border[0])
        return Town(self.stations, self.rides)


def cut_town(town, names):
    """The district of the rides named, that of the others, and the stations that stand between them."""
    rides, others = town.only(names).rides, town.without(names).rides
    here, there = places_of(rides), places_of(others)
    rows = [station for station in town.stations if station[0] in here and station[0] in there]
    inner = [station for station in town.stations if station[0] in here and station[0] not in there]
    outer = [station for station in town.stations if station[0] not in here]
    first = District(inner, _names(rows), rides)
    return (first, District(outer, _names(rows), others), rows)
