"""Lists out of a list, in the order that the document uses for lists of rides ([3])."""


def all_picks(names):
    """All lists out of the names: those with fewer names first, then by positions."""
    found = []
    rows = [[]]
    # Rows that are in order are in order, too, when each has grown by every later position.
    while len(rows) > 0:
        found = found + rows
        rows = [[*row, at] for row in rows for at in range(row[-1] + 1 if len(row) > 0 else 0, len(names))]
    return [[names[at] for at in row] for row in found]
