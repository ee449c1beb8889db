"""Who surely rides, and why ([24])."""

from ridesonce.endings import order_leaving
from ridesonce.needs import need_fair
from ridesonce.rings import bad_ring_with, rides_inside, ways_from


def sure_riders(town):
    """The names of the riders whom no final order leaves."""
    need_fair(town)
    return [ride[0] for ride in town.rides if bad_ring_with(town, ride[0]) is None]


def _reached(town, ride, kind):
    """The stations that the ride leads to inside the kind, in town order; none if it is not inside."""
    rides = rides_inside(town, kind)
    if ride not in rides:
        return []
    ways = ways_from(rides, ride[2])
    return [station[0] for station in town.stations if station[0] in ways]


def why(town, name):
    """Why a rider is sure, or how the rider is left."""
    need_fair(town)
    ride = town.ride(name)
    found = bad_ring_with(town, name)
    if found is not None:
        kind, ring = found
        return ("unsure", kind, ring, order_leaving(town, ring))
    return ("sure", _reached(town, ride, "empty"), _reached(town, ride, "full"))
