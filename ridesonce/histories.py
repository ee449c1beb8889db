"""Worlds of four moments, measured by the notes that are wrong in them ([60]).

Moves are the rows of all_moves. A table holds for each moment a list with a
number for each of these rows.
"""

from ridesonce.logbooks import MOMENTS


def wrong_notes(moves, notes):
    """The table of the numbers of notes that tell another number of bikes."""
    return [
        [len([1 for at, station, count in notes if at == moment and now.bikes(station) != count])
         for _, _, now, _ in moves]
        for moment in MOMENTS
    ]


def _spread_on(moves, costs):
    """The least cost of the standings from which each standing is reached."""
    least = list(costs)
    for at, (_, _, _, steps) in enumerate(moves):
        for _, to in steps:
            least[to] = min(least[to], least[at])
    return least


def _spread_back(moves, costs):
    """The least cost of the standings that are reached from each standing."""
    least = list(costs)
    for at in reversed(range(len(moves))):
        least[at] = min([least[at], *[least[to] for _, to in moves[at][3]]])
    return least


def _sums(first, second):
    return [one + two for one, two in zip(first, second)]


def costs_before(moves, wrong):
    """The table of the fewest notes that are wrong up to a moment, with those of the moment."""
    rows = []
    costs = [0 for _ in moves]
    for prices in wrong:
        costs = _sums(_spread_on(moves, costs), prices)
        rows.append(costs)
    return rows


def fits(moves, notes, slips):
    """Whether there is a world in which at most so many of the notes are wrong."""
    return min(costs_before(moves, wrong_notes(moves, notes))[-1]) <= slips


def costs_behind(moves, wrong):
    """The table of the fewest notes that are wrong from a moment on, with those of the moment."""
    rows = []
    costs = [0 for _ in moves]
    for prices in reversed(list(wrong)):
        costs = _sums(_spread_back(moves, costs), prices)
        rows = [costs, *rows]
    return rows


def _way(moves, costs, start):
    """Steps from a standing to one of the least cost: their names, and where they lead."""
    least = _spread_back(moves, costs)
    order = []
    at = start
    while costs[at] > least[at]:
        name, at = [step for step in moves[at][3] if least[step[1]] == least[at]][0]
        order.append(name)
    return (order, at)


def best_world(moves, wrong):
    """A world with the fewest wrong notes."""
    world = []
    at = 0
    for costs in costs_behind(moves, wrong):
        order, at = _way(moves, costs, at)
        world.append(order)
    return world
