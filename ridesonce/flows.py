"""Flows of least price along arcs.

An arc is a tuple (tail, head, room, price). A flow is a list with a number from
0 to the room for each arc. A row is a list of pairs (position of the arc, 1 or
-1), with -1 where it takes back what flows on the arc.
"""

# More than any row has arcs: a weight holds a price and, to choose among equal prices, the number of arcs.
PRICE = 1000


def _ways_out(arcs, flow):
    """What can be changed next to a flow, as tuples (from, to, position, 1 or -1, weight)."""
    found = []
    for at, (tail, head, room, price) in enumerate(arcs):
        if flow[at] < room:
            found.append((tail, head, at, 1, price * PRICE + 1))
        if flow[at] > 0:
            found.append((head, tail, at, -1, 1 - price * PRICE))
    return found


def cheapest_rows(arcs, flow, start):
    """A dict from each place to the price of a cheapest row that leads there, and the row with fewest arcs.

    No price may sink without end; so the flow has to be one of least price.
    """
    ways = _ways_out(arcs, flow)
    weights, rows = {start: 0}, {start: []}
    changed = True
    while changed:
        changed = False
        for here, there, at, sign, weight in ways:
            if here in weights and (there not in weights or weights[here] + weight < weights[there]):
                weights[there] = weights[here] + weight
                rows[there] = [*rows[here], (at, sign)]
                changed = True
    return {place: (weights[place] // PRICE, rows[place]) for place in weights}


def pushed(flow, row, number):
    """The flow with so much more along the row."""
    after = list(flow)
    for at, sign in row:
        after[at] += sign * number
    return after


def _room(arcs, flow, at, sign):
    return arcs[at][2] - flow[at] if sign == 1 else flow[at]


def cheapest_flow(arcs, start, goal):
    """The greatest flow from the start to the goal, and of such flows one of least price.

    Rows of fewest arcs among the cheapest ones keep their number small, however
    much room there is.
    """
    flow = [0 for _ in arcs]
    rows = cheapest_rows(arcs, flow, start)
    while goal in rows:
        _, row = rows[goal]
        flow = pushed(flow, row, min([_room(arcs, flow, at, sign) for at, sign in row]))
        rows = cheapest_rows(arcs, flow, start)
    return flow
