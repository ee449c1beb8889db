"""The forms of notes: what can be told of a district from outside, and how forms are joined and closed ([54], [55])."""

UNFAIR = ("unfair",)
RING = ("ring",)
DEAD = ("dead",)


def _sorted_pairs(pairs):
    """The pairs in order, without those of two stations of which one has a way to itself."""
    alone = [start for start, goal in pairs if start == goal]
    kept = [pair for pair in pairs if pair[0] == pair[1] or (pair[0] not in alone and pair[1] not in alone)]
    return tuple(sorted(set(kept)))


def ways_form(low, high):
    """The form of low and high ways between border stations, if there is no ring inside."""
    return ("ways", _sorted_pairs(low), _sorted_pairs(high))


def lots_form(rows):
    """The form of lots, told as rows of their border names, whether they have a bike, whether they have room."""
    if any([len(names) == 0 and not (has_bike and has_room) for names, has_bike, has_room in rows]):
        return DEAD
    alive = [name for names, has_bike, has_room in rows if has_bike and has_room for name in names]
    others = [(tuple(sorted(row[0])), *row[1:]) for row in rows if not (row[1] and row[2])]
    return ("lots", tuple(sorted(alive)), tuple(sorted(others)))


def _rows_of(some):
    """The rows of a form of lots; it tells nothing of which alive names are in one lot, nor does that count."""
    _, alive, others = some
    return [((name,), True, True) for name in alive] + list(others)


def _joined_rows(rows):
    """The rows of lots behind joining those that have a border station in common."""
    found = []
    for names, has_bike, has_room in rows:
        linked = [row for row in found if any([name in row[0] for name in names])]
        found = [row for row in found if row not in linked]
        linked = [*linked, (names, has_bike, has_room)]
        joined = [name for row in linked for name in row[0]]
        found = [*found, (sorted(set(joined)), any([row[1] for row in linked]), any([row[2] for row in linked]))]
    return found


def _joined_nets(first, second):
    nets = dict(first)
    more = dict(second)
    places = sorted(set([*nets, *more]))
    return tuple([(place, nets.get(place, 0) + more.get(place, 0)) for place in places])


def joined_form(first, second):
    """The form of the note of two districts that are joined."""
    if UNFAIR in (first, second):
        return UNFAIR
    _, nets, every, some = first
    _, more_nets, more_every, more_some = second
    ways, lots = RING, DEAD
    if RING not in (every, more_every):
        ways = ways_form([*every[1], *more_every[1]], [*every[2], *more_every[2]])
    if DEAD not in (some, more_some):
        lots = lots_form(_joined_rows(_rows_of(some) + _rows_of(more_some)))
    return ("fair", _joined_nets(nets, more_nets), ways, lots)


def _ways_on(pairs, name, is_open):
    """The pairs behind closing a border station, through which ways lead on if it is open for them."""
    others = [pair for pair in pairs if name not in pair]
    if not is_open:
        return others
    starts = [start for start, goal in pairs if goal == name]
    goals = [goal for start, goal in pairs if start == name]
    return [*others, *[(start, goal) for start in starts for goal in goals]]


def _closed_ways(every, name, is_empty, is_full):
    if every == RING:
        return RING
    _, low, high = every
    itself = (name, name)
    if (is_empty and itself in low) or (is_full and itself in high):
        return RING
    return ways_form(_ways_on(low, name, is_empty), _ways_on(high, name, is_full))


def _closed_lots(some, name, has_bike, has_room):
    """The form of lots behind closing a station, with whether it has a bike and whether it has room."""
    if some == DEAD:
        return DEAD
    rows = []
    for names, bike, room in _rows_of(some):
        if name in names:
            rest = [other for other in names if other != name]
            rows.append((rest, bike or has_bike, room or has_room))
        else:
            rows.append((names, bike, room))
    return lots_form(rows)


def closed_form(form, name, docks, bikes):
    """The form of the note behind closing a border station."""
    if form == UNFAIR:
        return UNFAIR
    _, nets, every, some = form
    end = bikes + dict(nets)[name]
    if not 0 <= end <= docks:
        return UNFAIR
    left = tuple([net for net in nets if net[0] != name])
    ways = _closed_ways(every, name, end == 0, end == docks)
    lots = _closed_lots(some, name, bikes > 0 or end > 0, bikes < docks or end < docks)
    return ("fair", left, ways, lots)
