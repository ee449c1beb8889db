"""Who has to ride first, or not at all, so that all others ride in every order ([47])."""

from ridesonce.ends import first_unfair
from ridesonce.lots import dead_lots
from ridesonce.needs import need_fair, need_small
from ridesonce.picks import all_picks
from ridesonce.rings import first_bad_ring
from ridesonce.standings import can_come, can_stand, town_after


def _all_surely_ride(town):
    return first_unfair(town) is None and first_bad_ring(town) is None


def _is_enough_ahead(town, names):
    return can_come(town, names, []) and _all_surely_ride(town_after(town, names, []))


def ahead(town):
    """The fewest riders to be done first so that all others ride in every order, and how they get there, or None."""
    need_fair(town)
    need_small(town)
    if len(dead_lots(town)) > 0:
        return None
    picks = all_picks([ride[0] for ride in town.rides])
    names = [pick for pick in picks if _is_enough_ahead(town, pick)][0]
    _, order = can_stand(town, names, [])
    return (names, order)


def call_off(town):
    """The fewest riders without whom all others ride in every order."""
    need_small(town)
    picks = all_picks([ride[0] for ride in town.rides])
    return [pick for pick in picks if _all_surely_ride(town.without(pick))][0]
