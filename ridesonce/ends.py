"""The numbers of bikes in the end ([14])."""

from ridesonce.towns import STREET


def ends(town):
    """The end number of each station, as a dict in town order."""
    numbers = {name: bikes for name, _, bikes in town.stations}
    for _, start, goal, kept in town.rides:
        if start != STREET:
            numbers[start] -= 1
        if goal != STREET:
            numbers[goal] += 1
    return numbers


def first_unfair(town):
    """The first station whose end number does not fit, with that number, or None."""
    for station, end in ends(town).items():
        if not 0 <= end <= town.docks(station):
            return (station, end)
    return None


def empties(town):
    """The names of the stations that are empty in the end."""
    return [station for station, end in ends(town).items() if end == 0]


def fulls(town):
    """The names of the stations that are full in the end."""
    return [station for station, end in ends(town).items() if end == town.docks(station)]
