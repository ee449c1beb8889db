"""What may have happened between the notes of a log ([60], [61])."""

from ridesonce.histories import best_world, costs_before, costs_behind, wrong_notes
from ridesonce.logbooks import check_moment
from ridesonce.moves import all_moves

# More wrong notes than a log can have.
NEVER = 1000


def _fitting_rows(moves, wrong, moment, slips):
    """The positions of the standings that some fitting world has at the moment."""
    before = costs_before(moves, wrong)[moment - 1]
    behind = costs_behind(moves, wrong)[moment - 1]
    prices = wrong[moment - 1]
    # Both sums contain the notes of the moment itself.
    return [at for at in range(len(moves)) if before[at] + behind[at] - prices[at] <= slips]


def rows_at(log, moment):
    """The rows of all_moves that some fitting world has at the moment."""
    check_moment(moment)
    moves = all_moves(log.town)
    return [moves[at] for at in _fitting_rows(moves, wrong_notes(moves, list(log)), moment, log.slips)]


def possible(log, moment, *, stopped=False):
    """All standings that some fitting world has at the moment."""
    rows = rows_at(log, moment)
    return [(done, road) for done, road, _, steps in rows if not stopped or len(steps) == 0]


def _state(row, name):
    done, road, _, _ = row
    if name in done:
        return "done"
    return "road" if name in road else "waiting"


def _world_through(moves, wrong, moment, at):
    """A world with the fewest wrong notes of those that have the standing at the moment."""
    alone = [0 if row == at else NEVER for row in range(len(moves))]
    return best_world(moves, [*wrong[:moment - 1], alone, *wrong[moment:]])


def ask(log, name, moment):
    """The state of a rider at the moment, or two fitting worlds in which it differs."""
    log.town.ride(name)
    check_moment(moment)
    moves = all_moves(log.town)
    wrong = wrong_notes(moves, list(log))
    firsts = {}
    for at in _fitting_rows(moves, wrong, moment, log.slips):
        firsts.setdefault(_state(moves[at], name), at)
    found = list(firsts.items())
    if len(found) == 0:
        return ("none",)
    if len(found) == 1:
        return ("sure", found[0][0])
    return ("open", *[_world_through(moves, wrong, moment, at) for _, at in found[:2]])
