"""The numbers of bikes in the end ([14])."""

from ridesonce.towns import STREET


def end_numbers(stations, rides):
    """The number of bikes that the rides leave at each of the stations, as a dict in their order."""
    numbers = {name: bikes for name, _, bikes in stations}
    for _, start, goal, kept in rides:
        if start != STREET:
            numbers[start] -= 1
        if goal != STREET:
            numbers[goal] += 1
    return numbers


def ends(town):
    """The end number of each station, as a dict in town order."""
    return end_numbers(town.stations, town.rides)


def first_unfair(town):
    """The first station whose end number does not fit, with that number, or None."""
    for station, end in ends(town).items():
        if not 0 <= end <= town.docks(station):
            return (station, end)
    return None


def empties(town):
    """The names of the stations that are empty in the end."""
    return [station for station, end in ends(town).items() if end == 0]


def fulls(town):
    """The names of the stations that are full in the end."""
    return [station for station, end in ends(town).items() if end == town.docks(station)]
