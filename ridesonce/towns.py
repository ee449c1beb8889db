"""Towns: stations with docks, and riders who each want one ride ([4] to [8])."""

from ridesonce.errors import BadName, BadNumber, Duplicate, NotKept, SameEnds, TooLarge, UnknownRide, UnknownStation

STREET = "street"
LETTERS = "abcdefghijklmnopqrstuvwxyz"
LETTERS_AND_DIGITS = "abcdefghijklmnopqrstuvwxyz0123456789"
LONGEST_NAME = 8


def is_name(text):
    """Whether the string is a name ([4])."""
    if text == STREET or not 1 <= len(text) <= LONGEST_NAME:
        return False
    return text[0] in LETTERS and all([sign in LETTERS_AND_DIGITS for sign in text])


def check_new_name(name, taken):
    """Raise an error unless the string is a name that is not among those taken."""
    if not is_name(name):
        raise BadName(name)
    if name in taken:
        raise Duplicate(name)


def check_number(number, least, most):
    """Raise an error unless the number is from least to most."""
    if not least <= number <= most:
        raise BadNumber(number)


def check_docks(docks, bikes):
    """Raise the first error of the numbers of a station ([6])."""
    check_number(docks, 1, Town.MOST_DOCKS)
    check_number(bikes, 0, docks)


def checked_stations(stations):
    """The names of the stations; raises the first error of one ([6])."""
    names = []
    for name, docks, bikes in stations:
        check_new_name(name, names)
        check_docks(docks, bikes)
        names.append(name)
    return names


def _check_ends(ride, stations):
    """Raise the first error of a ride beside that of its name ([6])."""
    name, start, goal, kept = ride
    for place in (start, goal):
        if place != STREET and place not in stations:
            raise UnknownStation(place)
    if start == goal:
        raise SameEnds(name)
    if not kept and STREET in (start, goal):
        raise NotKept(name)


def checked_rides(rides, stations):
    """The names of the rides between these stations; raises the first error of one ([6])."""
    names = []
    for ride in rides:
        check_new_name(ride[0], names)
        _check_ends(ride, stations)
        names.append(ride[0])
    return names


def check_count(count, most):
    """Raise an error if there are more than there may be."""
    if count > most:
        raise TooLarge(count)


class Town:
    """Stations and rides; a town never changes."""

    MOST_STATIONS = 12
    MOST_RIDES = 24
    MOST_DOCKS = 999999

    def __init__(self, stations, rides):
        check_count(len(stations), self.MOST_STATIONS)
        check_count(len(rides), self.MOST_RIDES)
        names = checked_stations(stations)
        self._positions = {name: at for at, name in enumerate(checked_rides(rides, names))}
        self.stations = tuple([tuple(station) for station in stations])
        self.rides = tuple([tuple(ride) for ride in rides])
        self._stations = {station[0]: station for station in self.stations}

    @classmethod
    def empty(cls):
        """The town without stations and rides."""
        return cls([], [])

    def _station(self, name):
        if name not in self._stations:
            raise UnknownStation(name)
        return self._stations[name]

    def _check_rides(self, names):
        for name in names:
            self.position(name)

    def docks(self, station):
        """The number of docks of a station."""
        return self._station(station)[1]

    def bikes(self, station):
        """The number of bikes at a station."""
        return self._station(station)[2]

    def free(self, station):
        """The number of free docks of a station."""
        return self.docks(station) - self.bikes(station)

    def ride(self, name):
        """The tuple of a ride."""
        return self.rides[self.position(name)]

    def position(self, name):
        """The position of a ride in the list of rides."""
        if name not in self._positions:
            raise UnknownRide(name)
        return self._positions[name]

    def passes(self):
        """The number of steps that all riders together make."""
        return sum([1 if kept else 2 for _, start, goal, kept in self.rides])

    def only(self, names):
        """The town with only the rides named."""
        self._check_rides(names)
        return Town(self.stations, [ride for ride in self.rides if ride[0] in names])

    def without(self, names):
        """The town with the other rides."""
        self._check_rides(names)
        return Town(self.stations, [ride for ride in self.rides if ride[0] not in names])

    def with_ride(self, name, start, goal, *, kept=True):
        """The town with one more ride at the end."""
        return Town(self.stations, [*self.rides, (name, start, goal, kept)])

    def with_bikes(self, station, bikes):
        """The town with another number of bikes at a station."""
        changed = (station, self.docks(station), bikes)
        return Town([changed if row[0] == station else row for row in self.stations], self.rides)
