"""The smallest crowd that can be left ([42])."""

from ridesonce.crowds import crowd_with_ring
from ridesonce.needs import need_small
from ridesonce.rings import KINDS, all_rings, rides_of_kind


def least_crowd(town):
    """The fewest riders of whom a ring can be left, with the ring and the crowd, or None."""
    need_small(town)
    least = None
    for kind in KINDS:
        for ring in all_rings(rides_of_kind(town.rides, kind)):
            crowd = crowd_with_ring(town, kind, ring)
            total = None if crowd is None else sum(crowd.values())
            if crowd is not None and (least is None or total < least[0]):
                least = (total, kind, ring, crowd)
    return least
