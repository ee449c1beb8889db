"""The van, which brings bikes to those who wait and takes bikes away ([48] to [50])."""

from ridesonce.ends import empties
from ridesonce.leftover import LeftFamily
from ridesonce.lots import dead_lots, linked_rides, places_of
from ridesonce.needs import need_fair
from ridesonce.picks import all_picks
from ridesonce.rings import is_balanced, rides_of_both_kinds

BRING = "bring"
TAKE = "take"


def _deeds_for(town, kind, rides):
    """The deeds that free a dead lot of the kind, in the town order of their stations."""
    places = places_of(rides)
    word = BRING if kind == "empty" else TAKE
    return [(word, station[0]) for station in town.stations if station[0] in places]


def van_now(town, prices):
    """The cheapest deeds, one for each dead lot, and the sum of their prices, or None."""
    need_fair(town)
    chosen = []
    for kind, names in dead_lots(town):
        deeds = _deeds_for(town, kind, [town.ride(name) for name in names])
        allowed = [(prices[deed], at) for at, deed in enumerate(deeds) if deed in prices]
        if len(allowed) == 0:
            return None
        price, at = min(allowed)
        chosen.append((price, deeds[at]))
    return (sum([price for price, _ in chosen]), [deed for _, deed in chosen])


def _is_left_behind(lot, part, station):
    """Whether behind a deed at a station of the lot this part of it can be left ([50])."""
    gone = [ride for ride in lot if ride[0] not in part]
    inside = len(gone) + len(part) == len(lot)
    left = [ride for ride in lot if ride[0] in part]
    return inside and station not in places_of(left) and len(linked_rides(gone)) == 1


def _best_deed(town, lot, known):
    """For a lot that is left the least number of deeds, and the first of them."""
    kind = "empty" if lot[0][1] in empties(town) else "full"
    deeds = _deeds_for(town, kind, lot)
    numbers = []
    for at, (_, station) in enumerate(deeds):
        behind = [number for part, (number, _) in known.items() if _is_left_behind(lot, part, station)]
        numbers.append((1 + max(behind), at))
    number, at = min(numbers)
    return (number, deeds[at])


def _names(rides):
    return tuple([ride[0] for ride in rides])


def _numbers(town):
    """For each list that can ever be left the least number of deeds, and the first of them.

    Such a list consists of rides that can be left and is balanced. What is left
    behind a deed is shorter, and so it is known before.
    """
    known = {(): (0, None)}
    for rides in all_picks(rides_of_both_kinds(town)):
        if len(rides) > 0 and is_balanced(rides):
            parts = linked_rides(rides)
            if len(parts) == 1:
                known[_names(rides)] = _best_deed(town, rides, known)
            else:
                rows = [known[_names(part)] for part in parts]
                known[_names(rides)] = (sum([number for number, _ in rows]), rows[0][1])
    return known


def van_number(town):
    """The least number of deeds that bring everybody home whatever the riders do, and a plan of the deeds."""
    family = LeftFamily(town)
    known = _numbers(town)
    number = max([known[names][0] for names in family])
    return (number, {names: deed for names, (_, deed) in known.items() if len(names) > 0})
