"""The lists of rides that can be left ([33], [34])."""

from ridesonce.errors import NoSuchRow, NotLeft
from ridesonce.lots import dead_lots
from ridesonce.needs import need_fair, need_small
from ridesonce.picks import all_picks
from ridesonce.rings import is_balanced, rides_of_both_kinds


def _lists_left(town):
    """All lists of rides that can be left, as tuples of names, in the order of the family."""
    rows = [tuple([ride[0] for ride in rides]) for rides in all_picks(rides_of_both_kinds(town)) if is_balanced(rides)]
    return [names for names in rows if len(dead_lots(town.without(names))) == 0]


class LeftFamily:
    """All lists of rides that can be left: those with fewer rides first, then by positions."""

    def __init__(self, town):
        need_fair(town)
        need_small(town)
        self._town = town
        self._rows = tuple(_lists_left(town))
        self._ranks = {tuple(sorted(names)): at for at, names in enumerate(self._rows)}

    def __len__(self):
        return len(self._rows)

    def __getitem__(self, at):
        if not 0 <= at < len(self._rows):
            raise NoSuchRow(at)
        return self._rows[at]

    def __iter__(self):
        return iter(self._rows)

    def __contains__(self, names):
        return tuple(sorted(names)) in self._ranks

    def rank(self, names):
        """The position of the list with these names, in any order."""
        key = tuple(sorted(names))
        if key not in self._ranks:
            raise NotLeft()
        return self._ranks[key]

    def holding(self, name):
        """The number of lists that contain the ride."""
        self._town.ride(name)
        return len([names for names in self._rows if name in names])
