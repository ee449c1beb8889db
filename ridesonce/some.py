"""Whether everybody can ride in some order, and how ([25], [26])."""

from ridesonce.lots import dead_lots
from ridesonce.needs import need_fair
from ridesonce.steps import able, go


def is_wise(town, name):
    """Whether an able ride is wise: no lot is dead after its step."""
    return len(dead_lots(go(town, name))) == 0


def wise_rides(town):
    """The names of the wise rides."""
    need_fair(town)
    return [name for name in able(town) if is_wise(town, name)]


def _first_wise(town):
    for name in able(town):
        if is_wise(town, name):
            return name
    return None


def _wise_order(town):
    order = []
    name = _first_wise(town)
    while name is not None:
        order.append(name)
        town = go(town, name)
        name = _first_wise(town)
    return order


def some(town):
    """A complete order, or the first dead lot."""
    need_fair(town)
    dead = dead_lots(town)
    if len(dead) > 0:
        kind, names = dead[0]
        return ("no", kind, names)
    return ("yes", _wise_order(town))
