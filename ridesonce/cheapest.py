"""The cheapest mends that break all bad rings, and trees that show it ([44] to [46])."""

from ridesonce.mends import RESERVE, mends_against
from ridesonce.needs import need_fair, need_small
from ridesonce.rings import KINDS, bad_rings, is_bad_ring


def _allowed_against(town, prices, kind, ring):
    return [mend for mend in mends_against(town, kind, ring) if mend in prices]


def _rows(town, prices, kind):
    """Each bad ring of the kind with the allowed mends that break it."""
    rings = [names for word, names in bad_rings(town) if word == kind]
    return [(ring, _allowed_against(town, prices, kind, ring)) for ring in rings]


def _with_fewest_mends(rows):
    """The first of the rows with the fewest mends: one of them is needed."""
    fewest = min([len(mends) for _, mends in rows])
    return [row for row in rows if len(row[1]) == fewest][0]


def _unbroken(rows, mend):
    return [row for row in rows if mend not in row[1]]


def _cheapest(rows, prices, limit):
    """The least price below the limit and mends of that price that break all rings, or None."""
    if len(rows) == 0:
        return (0, []) if limit > 0 else None
    best = None
    for mend in _with_fewest_mends(rows)[1]:
        found = _cheapest(_unbroken(rows, mend), prices, limit - prices[mend])
        if found is not None:
            limit = prices[mend] + found[0]
            best = (limit, [mend, *found[1]])
    return best


def _tree(rows, prices, goal, total):
    """A tree of which each place adds to the total, down to where it has reached the goal."""
    if total >= goal:
        return ("price", total)
    ring, mends = _with_fewest_mends(rows)
    branches = [(mend, _tree(_unbroken(rows, mend), prices, goal, total + prices[mend])) for mend in mends]
    return ("ring", list(ring), branches)


def _sum_of(mends, prices):
    return sum([prices[mend] for mend in mends])


def cheapest_mends(town, prices):
    """The cheapest mends that break all bad rings, with trees that show it, or a ring that none of them breaks."""
    need_fair(town)
    need_small(town)
    rows_of = {kind: _rows(town, prices, kind) for kind in KINDS}
    for kind in KINDS:
        for ring, mends in rows_of[kind]:
            if len(mends) == 0:
                return ("no", kind, ring)
    # All mends together cost less, so something is found.
    limit = 1 + sum(prices.values())
    low, low_mends = _cheapest(rows_of["empty"], prices, limit)
    high, high_mends = _cheapest(rows_of["full"], prices, limit)
    trees = [_tree(rows_of["empty"], prices, low, 0), _tree(rows_of["full"], prices, high, 0)]
    return ("yes", low + high, low_mends + high_mends, *trees)


def _is_node(town, prices, kind, tree, way):
    """Whether the ring of a node is unbroken on the way, and the branches are those that break it."""
    _, ring, branches = tree
    if not is_bad_ring(town, kind, ring):
        return False
    mends = _allowed_against(town, prices, kind, ring)
    told = [branch[0] for branch in branches]
    if len(told) != len(mends) or not all([mend in told for mend in mends]):
        return False
    return not any([mend in way for mend in mends])


def _is_tree(town, prices, kind, goal, tree, way):
    """Whether what stands at the end of a way of mends is as it has to be, down to all leaves."""
    total = _sum_of(way, prices)
    if total >= goal:
        return tree == ("price", total)
    if tree[0] != "ring" or len(tree) != 3 or not _is_node(town, prices, kind, tree, way):
        return False
    return all([_is_tree(town, prices, kind, goal, branch, [*way, mend]) for mend, branch in tree[2]])


def _break_all(town, mends):
    """Whether each bad ring is broken by one of the mends."""
    against = [mends_against(town, kind, ring) for kind, ring in bad_rings(town)]
    return all([any([mend in mends for mend in row]) for row in against])


def judge_mends(town, prices, answer):
    """Whether the answer shows what it claims."""
    need_fair(town)
    need_small(town)
    if answer[0] != "yes" or len(answer) != 5:
        return False
    _, price, mends, empty_tree, full_tree = answer
    if not all([mend in prices for mend in mends]) or len(set(mends)) != len(mends):
        return False
    if price != _sum_of(mends, prices) or not _break_all(town, mends):
        return False
    goal = _sum_of([mend for mend in mends if mend[0] == RESERVE], prices)
    if not _is_tree(town, prices, "empty", goal, empty_tree, []):
        return False
    return _is_tree(town, prices, "full", price - goal, full_tree, [])
