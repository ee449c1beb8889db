"""Where to look next, and which notes cannot all be right ([62])."""

from ridesonce.histories import fits
from ridesonce.moves import all_moves
from ridesonce.worlds import rows_at


def _worst_of_a_look(rows, station):
    """The greatest number of standings in which the station has the same number of bikes."""
    numbers = [now.bikes(station) for _, _, now, _ in rows]
    return max([numbers.count(number) for number in numbers])


def best_look(log, moment):
    """The station at which a look settles most, with the worst that it can bring, or None."""
    rows = rows_at(log, moment)
    stations = [station[0] for station in log.town.stations]
    if len(rows) == 0 or len(stations) == 0:
        return None
    worst, at = min([(_worst_of_a_look(rows, station), at) for at, station in enumerate(stations)])
    return (stations[at], worst)


def clash(log):
    """Notes that fit no world, though they do if any one of them is left out; none if the log fits some world."""
    moves = all_moves(log.town)
    needed = list(log)
    if fits(moves, needed, log.slips):
        return []
    for note in log:
        others = [other for other in needed if other != note]
        if not fits(moves, others, log.slips):
            needed = others
    return needed
