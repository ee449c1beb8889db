"""Final orders that leave riders ([15], [22], [33])."""

from ridesonce.lots import dead_lots
from ridesonce.some import some


def order_leaving(town, ring):
    """A final order of a fair town after which all rides of the bad ring are left.

    Without the ring each station has the same end number, and nobody in a dead
    lot ever goes. All others can be brought home, and then each station stands
    at its end number: the ring and the dead lots are stopped for good.
    """
    rest = town.without(ring)
    dead = [name for _, names in dead_lots(rest) for name in names]
    return some(rest.without(dead))[1]
