"""Who can be done and who can be on the road at the same time ([28] to [31])."""

from ridesonce.ends import ends, first_unfair
from ridesonce.errors import BadStanding, NoOrder
from ridesonce.lots import dead_lots
from ridesonce.needs import need_fair, need_small
from ridesonce.picks import all_picks
from ridesonce.some import some
from ridesonce.towns import STREET, Town


def standing_town(town, done, road):
    """The town of a standing: who is done, as they are, and who is on the road, from the start to the street."""
    rides = []
    for ride in town.rides:
        name, start, _, _ = ride
        if name in done:
            rides.append(ride)
        elif name in road:
            rides.append((name, start, STREET, True))
    return Town(town.stations, rides)


def town_after(town, done, road):
    """The town as it stands in a standing that can come."""
    numbers = ends(standing_town(town, done, road))
    stations = [(name, docks, numbers[name]) for name, docks, _ in town.stations]
    rides = []
    for ride in town.rides:
        name, _, goal, _ = ride
        if name in road:
            rides.append((name, STREET, goal, True))
        elif name not in done:
            rides.append(ride)
    return Town(stations, rides)


def _all_can_ride(town):
    return first_unfair(town) is None and len(dead_lots(town)) == 0


def can_come(town, done, road):
    """Whether some order leads to the standing."""
    return _all_can_ride(standing_town(town, done, road))


def _check_standing(town, done, road):
    for name in done:
        town.ride(name)
    for name in road:
        if town.ride(name)[3] or name in done:
            raise BadStanding(name)


def can_stand(town, done, road):
    """An order that leads to the standing, or what shows that none does."""
    _check_standing(town, done, road)
    moved = standing_town(town, done, road)
    unfair = first_unfair(moved)
    if unfair is not None:
        station, number = unfair
        return ("no", "docks", station, number)
    # Whoever is on the road has made a step that is able exactly when a ride to the street is.
    return some(moved)


def all_that_come(town):
    """All standings that can come, in the order of standings."""
    names = [ride[0] for ride in town.rides]
    found = []
    for done in all_picks(names):
        for road in all_picks([ride[0] for ride in town.rides if not ride[3] and ride[0] not in done]):
            moved = standing_town(town, done, road)
            if _all_can_ride(moved):
                places = [[town.position(name) for name in part] for part in (done, road)]
                found.append((moved.passes(), *places))
    return [([names[at] for at in first], [names[at] for at in second]) for _, first, second in sorted(found)]


def standings(town):
    """Yield all standings that can come, as tuples of two lists: who is done, who is on the road."""
    need_small(town)
    for done, road in all_that_come(town):
        yield (done, road)


def count_standings(town):
    """The number of standings that can come."""
    need_small(town)
    return len(all_that_come(town))


def before_pairs(town):
    """All pairs of riders of whom the first is done before the second in every complete order."""
    need_fair(town)
    need_small(town)
    if len(dead_lots(town)) > 0:
        raise NoOrder()
    # Each of these standings is passed by a complete order, and no others are.
    passed = [done for done, road in all_that_come(town) if len(dead_lots(town_after(town, done, road))) == 0]
    names = [ride[0] for ride in town.rides]
    pairs = [(first, second) for first in names for second in names if first != second]
    return [pair for pair in pairs if all([pair[0] in done or pair[1] not in done for done in passed])]
