"""Rides that may go either way ([32])."""

from ridesonce.ends import ends
from ridesonce.rings import ways_from
from ridesonce.some import some
from ridesonce.towns import STREET, Town


def _exchanged(rides, names):
    """The rides, those named with start and goal exchanged."""
    return [(name, goal, start, kept) if name in names else (name, start, goal, kept)
            for name, start, goal, kept in rides]


def turn(town, names):
    """The town in which the rides named have start and goal exchanged."""
    for name in names:
        town.ride(name)
    return Town(town.stations, _exchanged(town.rides, names))


def _limits(town, names):
    """A dict from each station to its least and its most: how many of the rides named may end there."""
    fixed = ends(town.without(names))
    free_rides = town.only(names).rides
    found = {}
    for station, docks, _ in town.stations:
        degree = len([ride for ride in free_rides if station in ride[1:3]])
        least = max(0, (degree - fixed[station] + 1) // 2)
        most = min(degree, (docks - fixed[station] + degree) // 2)
        found[station] = (least, most)
    return found


def _gaps(rides, limits, word):
    """For each station how far it is from what it may have: above 0 it breaks its limit, below 0 it has room."""
    here = {name: len([ride for ride in rides if ride[2] == name]) for name in limits}
    if word == "inside":
        return {name: here[name] - most for name, (_, most) in limits.items()}
    return {name: least - here[name] for name, (least, _) in limits.items()}


def _settled(rides, limits, word):
    """The rides, some exchanged so that no station breaks its limit, and the stations that show it cannot be.

    One of the two is None. A row of rides that ends at a station that breaks
    its limit, and begins where there is room, changes these two stations alone
    when it is exchanged. If there is no such row, then each ride that ends at
    a station found has both ends among the stations found; so these have too
    many rides inside, for all other stations are at their limits, too. For
    too few rides it is the same with rows the other way round.
    """
    gaps = _gaps(rides, limits, word)
    broken = [name for name in limits if gaps[name] > 0]
    while len(broken) > 0:
        rows = _exchanged(rides, [ride[0] for ride in rides]) if word == "inside" else rides
        ways = ways_from(rows, broken[0])
        roomy = [place for place in ways if place == STREET or gaps[place] < 0]
        if len(roomy) == 0:
            return None, [name for name in limits if name in ways]
        rides = _exchanged(rides, [ride[0] for ride in ways[roomy[0]]])
        gaps = _gaps(rides, limits, word)
        broken = [name for name in limits if gaps[name] > 0]
    return rides, None


def _directed(town, names):
    """The rides named with directions that are fair, or None; and the refusal, or None."""
    limits = _limits(town, names)
    for name, (least, most) in limits.items():
        if least > most:
            return None, ("no", "alone", [name])
    rides = list(town.only(names).rides)
    # What has no more than its most keeps to it when it gets its least, which is not more.
    for word in ("inside", "touching"):
        rides, shown = _settled(rides, limits, word)
        if shown is not None:
            return None, ("no", word, shown)
    return rides, None


def either(town, names):
    """Which of the rides named have to be turned so that everybody can ride, and how; or what forbids it."""
    rides, refusal = _directed(town, names)
    if refusal is not None:
        return refusal
    turned = [ride[0] for ride in rides if ride not in town.rides]
    # A lot is dead or not whatever way its rides go.
    told = some(turn(town, turned))
    return ("yes", turned, told[1]) if told[0] == "yes" else told
