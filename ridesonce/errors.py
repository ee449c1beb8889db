"""The errors of the program, all directly under RidesError ([6] and the points that raise them)."""


class RidesError(ValueError):
    """The base class of all errors that the program raises."""


class BadName(RidesError):
    """What should be a name of a station or a ride is none."""

    def __init__(self, name):
        self.name = name


class Duplicate(RidesError):
    """The name stands for something else already."""

    def __init__(self, name):
        self.name = name


class UnknownStation(RidesError):
    """There is no such station or place."""

    def __init__(self, name):
        self.name = name


class UnknownRide(RidesError):
    """There is no such ride."""

    def __init__(self, name):
        self.name = name


class SameEnds(RidesError):
    """The ride starts where it ends."""

    def __init__(self, name):
        self.name = name


class NotKept(RidesError):
    """The ride has an end at the street and so has to be kept."""

    def __init__(self, name):
        self.name = name


class CannotGo(RidesError):
    """The ride is not able."""

    def __init__(self, name):
        self.name = name


class OnRoad(RidesError):
    """The rider is on the road."""

    def __init__(self, name):
        self.name = name


class OpenBorder(RidesError):
    """The district still has a border station."""

    def __init__(self, name):
        self.name = name


class BadStanding(RidesError):
    """The rider cannot be on the road."""

    def __init__(self, name):
        self.name = name


class BadNumber(RidesError):
    """The number is not in its limits."""

    def __init__(self, number):
        self.number = number


class TooLarge(RidesError):
    """There are more than there may be."""

    def __init__(self, count):
        self.count = count


class BadLine(RidesError):
    """The line of a text is wrong; lines are counted from 1."""

    def __init__(self, line):
        self.line = line


class NoSuchRow(RidesError):
    """There is nothing at this position."""

    def __init__(self, index):
        self.index = index


class NotFair(RidesError):
    """The end number of the station is not from 0 to its docks."""

    def __init__(self, station, end):
        self.station = station
        self.end = end


class Refused(RidesError):
    """The guard does not allow a town with this verdict."""

    def __init__(self, word):
        self.word = word


class BadWord(RidesError):
    """The word is not the word of a guard."""

    def __init__(self, word):
        self.word = word


class BadCommand(RidesError):
    """The string is no command that is a deed."""

    def __init__(self, command):
        self.command = command


class NothingToUndo(RidesError):
    """There is nothing to take back."""


class NothingToRedo(RidesError):
    """There is nothing to do again."""


class NoOrder(RidesError):
    """There is no complete order."""


class NoNote(RidesError):
    """There is no such note."""


class NotLeft(RidesError):
    """These rides cannot be left."""


class OtherBorder(RidesError):
    """The two districts have different borders."""
