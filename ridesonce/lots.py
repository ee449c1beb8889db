"""Rides that hang together, and those that can never go ([16])."""

from ridesonce.towns import STREET


def places_of(rides):
    """The places at which the rides start and end."""
    return [place for ride in rides for place in ride[1:3]]


def _labels(rides):
    """A dict that gives two stations the same number if a chain of linked rides joins them."""
    labels = {place: at for at, place in enumerate(places_of(rides))}
    for _, start, goal, kept in rides:
        if STREET not in (start, goal):
            old, new = labels[start], labels[goal]
            labels = {place: new if label == old else label for place, label in labels.items()}
    return labels


def linked_rides(rides):
    """The lots of the rides as lists of rides, ordered by their first ones."""
    labels = _labels(rides)
    found = {}
    for ride in rides:
        station = ride[2] if ride[1] == STREET else ride[1]
        found.setdefault(labels[station], []).append(ride)
    return list(found.values())


def lots(town):
    """The lots as lists of names, ordered by their first names."""
    return [[ride[0] for ride in lot] for lot in linked_rides(town.rides)]


def _dead_kind(town, lot):
    places = places_of(lot)
    if STREET in places:
        return None
    if all([town.bikes(place) == 0 for place in places]):
        return "empty"
    if all([ride[3] for ride in lot]) and all([town.free(place) == 0 for place in places]):
        return "full"
    return None


def dead_lots(town):
    """The dead lots as tuples of the kind and the names, in the order of lots."""
    found = []
    for lot in linked_rides(town.rides):
        kind = _dead_kind(town, lot)
        if kind is not None:
            found.append((kind, [ride[0] for ride in lot]))
    return found
