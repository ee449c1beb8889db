"""What comes of going by books of rules ([68] to [70])."""

from ridesonce.moves import all_moves
from ridesonce.needs import need_fair, need_small
from ridesonce.rulebooks import check_stations, names_let


def _check(town, books):
    need_fair(town)
    need_small(town)
    for book in books:
        check_stations(town, book)


def _steps_let(moves, book):
    """For each row of the moves the steps that the book lets there."""
    found = []
    for _, _, now, steps in moves:
        names = names_let(now, book)
        found.append([step for step in steps if step[0] in names])
    return found


def _orders(steps):
    """A shortest order to each row that such steps lead to, as a dict from the positions of the rows, in order."""
    orders = {0: []}
    # Steps lead to later rows, and all orders to a row are equally long.
    for at, row in enumerate(steps):
        if at in orders:
            for name, to in row:
                if to not in orders:
                    orders[to] = [*orders[at], name]
    return {at: orders[at] for at in sorted(orders)}


def judge_book(town, book):
    """That every order that is final by the book is complete, or one that is not."""
    _check(town, [book])
    moves = all_moves(town)
    steps = _steps_let(moves, book)
    for at, order in _orders(steps).items():
        if len(steps[at]) == 0 and len(moves[at][2].rides) > 0:
            return ("no", order)
    return ("yes",)


def _steps_home(moves, steps):
    """Those of the steps behind which everybody can come home by such steps, and from which rows everybody can."""
    good = [len(now.rides) == 0 for _, _, now, _ in moves]
    home = [[] for _ in moves]
    for at in reversed(range(len(moves))):
        home[at] = [(name, to) for name, to in steps[at] if good[to]]
        good[at] = good[at] or len(home[at]) > 0
    return (home, good)


def strike(town, book):
    """The greatest part of the book that brings everybody home, told for each standing, or None."""
    _check(town, [book])
    moves = all_moves(town)
    home, good = _steps_home(moves, _steps_let(moves, book))
    if not good[0]:
        return None
    return [(moves[at][0], moves[at][1], [name for name, _ in home[at]]) for at in _orders(home)]


def apart(town, first, second):
    """A shortest order by both books after which only one of them lets an able ride, and that ride, or None."""
    _check(town, [first, second])
    moves = all_moves(town)
    one, two = _steps_let(moves, first), _steps_let(moves, second)
    both = [[step for step in steps if step in two[at]] for at, steps in enumerate(one)]
    for at, order in _orders(both).items():
        differ = [name for name, to in [*one[at], *two[at]] if (name, to) not in both[at]]
        if len(differ) > 0:
            return (order, differ[0])
    return None
