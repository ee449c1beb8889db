"""Whether everybody rides in every order ([22], [23])."""

from ridesonce.endings import order_leaving
from ridesonce.ends import empties, fulls
from ridesonce.errors import CannotGo, UnknownRide
from ridesonce.needs import need_fair
from ridesonce.rings import first_bad_ring, is_bad_ring, rides_inside
from ridesonce.steps import is_stopped, run


def _longest_rows(stations, rides):
    """A dict from each station to the number of rides in the longest row that ends at it; there is no ring."""
    numbers = {station: 0 for station in stations}
    # A row without a ring has fewer rides than there are stations, so this often is enough.
    for _ in stations:
        for ride in rides:
            numbers[ride[2]] = max(numbers[ride[2]], numbers[ride[1]] + 1)
    return numbers


def every(town):
    """That every final order is complete, with numbers that show it, or a ring that can be left."""
    need_fair(town)
    found = first_bad_ring(town)
    if found is not None:
        kind, ring = found
        return ("no", kind, ring, order_leaving(town, ring))
    low = _longest_rows(empties(town), rides_inside(town, "empty"))
    high = _longest_rows(fulls(town), rides_inside(town, "full"))
    return ("yes", low, high)


def _rises(numbers, stations, rides):
    if sorted(numbers) != sorted(stations):
        return False
    return all([numbers[ride[1]] < numbers[ride[2]] for ride in rides])


def _is_final(town, order, ring):
    """Whether the list is a final order of the town after which all rides of the ring are left."""
    try:
        stop = run(town, order)
    except (UnknownRide, CannotGo):
        return False
    left = [ride[0] for ride in stop.rides]
    return is_stopped(stop) and all([name in left for name in ring])


def judge_every(town, verdict):
    """Whether the certificate in the verdict shows what it claims."""
    need_fair(town)
    if verdict[0] == "yes" and len(verdict) == 3:
        _, low, high = verdict
        low_rises = _rises(low, empties(town), rides_inside(town, "empty"))
        return low_rises and _rises(high, fulls(town), rides_inside(town, "full"))
    if verdict[0] == "no" and len(verdict) == 4:
        _, kind, ring, order = verdict
        return is_bad_ring(town, kind, ring) and _is_final(town, order, ring)
    return False
