"""Logbooks: notes of how many bikes stations had ([58], [59])."""

from ridesonce.errors import NoNote
from ridesonce.needs import need_small
from ridesonce.towns import check_number

MOMENTS = (1, 2, 3, 4)
MOST_SLIPS = 3


def check_moment(moment):
    """Raise an error unless the number is that of a moment."""
    check_number(moment, MOMENTS[0], MOMENTS[-1])


def _in_order(town, counts):
    """The notes as tuples, by moment, then in town order."""
    places = [(moment, station[0]) for moment in MOMENTS for station in town.stations]
    return tuple([(*place, counts[place]) for place in places if place in counts])


class Logbook:
    """Notes about a town: at a moment a station had so many bikes; some of them may be wrong."""

    def __init__(self, town, *, slips=0):
        need_small(town)
        check_number(slips, 0, MOST_SLIPS)
        self.slips = slips
        self._town = town
        self._counts = {}
        # A tuple, made anew with each note: who iterates over a log goes over the notes of that time.
        self._rows = ()

    @property
    def town(self):
        """The town that the notes are about."""
        return self._town

    def __setitem__(self, at, worth):
        moment, station = at
        check_moment(moment)
        check_number(worth, 0, self._town.docks(station))
        self._counts[moment, station] = worth
        self._rows = _in_order(self._town, self._counts)

    def __getitem__(self, at):
        if at not in self._counts:
            raise NoNote()
        return self._counts[at]

    def __contains__(self, at):
        return at in self._counts

    def __len__(self):
        return len(self._rows)

    def __iter__(self):
        return iter(self._rows)

    def withdraw(self, moment, station):
        """Take a note away."""
        if (moment, station) not in self._counts:
            raise NoNote()
        del self._counts[moment, station]
        self._rows = _in_order(self._town, self._counts)
