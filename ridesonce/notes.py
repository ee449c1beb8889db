"""Notes: all that a surrounding can ever tell of a district ([53] to [55])."""

from ridesonce.districts import MOST_BORDER
from ridesonce.ends import end_numbers, first_unfair
from ridesonce.errors import OpenBorder, UnknownStation
from ridesonce.forms import DEAD, RING, UNFAIR, closed_form, joined_form, lots_form, ways_form
from ridesonce.lots import dead_lots, linked_rides, places_of
from ridesonce.rings import first_bad_ring, rides_between, rides_of_kind, ring_with, ways_from
from ridesonce.towns import STREET, check_count, check_docks


class Note:
    """The border of a district, and the form of what can be told of it from there; a note never changes."""

    def __init__(self, border, form):
        self.border = border
        self.form = form

    def __add__(self, other):
        border = sorted(set([*self.border, *other.border]))
        check_count(len(border), MOST_BORDER)
        return Note(tuple(border), joined_form(self.form, other.form))

    def close(self, name, docks, bikes):
        """The note of the district in which a border station has become an inner one."""
        if name not in self.border:
            raise UnknownStation(name)
        check_docks(docks, bikes)
        border = tuple([other for other in self.border if other != name])
        return Note(border, closed_form(self.form, name, docks, bikes))

    def answer(self):
        """Whether every final order is complete, and whether there is a complete order."""
        if len(self.border) > 0:
            raise OpenBorder(self.border[0])
        if self.form == UNFAIR:
            return UNFAIR
        _, _, every, some = self.form
        return ("fair", every != RING, some != DEAD)


def _passable(district, numbers, kind):
    """The inner stations that are empty in the end, or full in the end."""
    rows = [(name, 0 if kind == "empty" else docks) for name, docks, _ in district.stations]
    return [name for name, level in rows if numbers[name] == level]


def _has_ring(district, kind, passable):
    rides = rides_between(district.rides, kind, passable)
    return any([ring_with(rides, ride) is not None for ride in rides])


def _ways(district, kind, passable):
    """The pairs of border stations with a way of the kind from the first to the second."""
    rides = rides_of_kind(district.rides, kind)
    onward = [ride for ride in rides if ride[1] in passable]
    first = [ride for ride in rides if ride[1] in district.border]
    pairs = [(ride[1], goal) for ride in first for goal in ways_from(onward, ride[2])]
    return [pair for pair in pairs if pair[1] in district.border]


def _every_form(district, numbers):
    low, high = _passable(district, numbers, "empty"), _passable(district, numbers, "full")
    if _has_ring(district, "empty", low) or _has_ring(district, "full", high):
        return RING
    return ways_form(_ways(district, "empty", low), _ways(district, "full", high))


def _row_of(district, numbers, lot):
    """The border names of a lot, whether it has a bike, whether it has room."""
    places = places_of(lot)
    names = [name for name in district.border if name in places]
    inner = [station for station in district.stations if station[0] in places]
    has_bike = any([bikes > 0 or numbers[name] > 0 for name, _, bikes in inner])
    has_room = any([bikes < docks or numbers[name] < docks for name, docks, bikes in inner])
    at_street = STREET in places
    is_unkept = not all([ride[3] for ride in lot])
    return (names, at_street or has_bike, at_street or is_unkept or has_room)


def _form_of(district):
    # A border station is told without docks and bikes: what the rides leave there is its net.
    border = sorted(district.border)
    numbers = end_numbers([*district.stations, *[(name, 0, 0) for name in border]], district.rides)
    if not all([0 <= numbers[name] <= docks for name, docks, _ in district.stations]):
        return UNFAIR
    nets = tuple([(name, numbers[name]) for name in border])
    lots = lots_form([_row_of(district, numbers, lot) for lot in linked_rides(district.rides)])
    return ("fair", nets, _every_form(district, numbers), lots)


def note_of(district):
    """The note of a district."""
    return Note(tuple(sorted(district.border)), _form_of(district))


def answer_of(town):
    """Whether a town is fair, whether every final order is complete, and whether there is a complete order."""
    if first_unfair(town) is not None:
        return UNFAIR
    return ("fair", first_bad_ring(town) is None, len(dead_lots(town)) == 0)
