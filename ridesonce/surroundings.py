"""What stands around a district, and where two districts show that they differ ([56])."""

from ridesonce.errors import OtherBorder
from ridesonce.forms import DEAD, RING, UNFAIR
from ridesonce.notes import note_of
from ridesonce.towns import STREET, Town, check_count

MOST_INNER = 6
MOST_BORDER = 5
MOST_RIDES = 10
# In the middle of that many docks no district leads a border station to either end.
ROOM = 999999
MIDDLE = 500000


def placed(district, surrounding):
    """The town of the district in its surrounding."""
    rows, stations, rides = surrounding
    return Town([*district.stations, *rows, *stations], [*district.rides, *rides])


def _check_handy(district):
    check_count(len(district.stations), MOST_INNER)
    check_count(len(district.border), MOST_BORDER)
    check_count(len(district.rides), MOST_RIDES)


def _fresh_names(letter, taken):
    """Names that are not among those taken, as many as a surrounding can use."""
    names = [letter + str(at) for at in range(100)]
    return [name for name in names if name not in taken]


def _surrounding(first, second, chosen, ends):
    """A surrounding with the stations chosen, all others in the middle, and with rides between these ends."""
    border = sorted(first.border)
    rows = [chosen.get(name, (name, ROOM, MIDDLE)) for name in border]
    names = _fresh_names("r", [ride[0] for ride in [*first.rides, *second.rides]])
    rides = [(names[at], start, goal, True) for at, (start, goal) in enumerate(ends)]
    places = [place for pair in ends for place in pair]
    known = [STREET, *border]
    further = [(place, 1, 0) for place in sorted(set(places)) if place not in known]
    return (rows, further, rides)


def _row_between(name, low, high):
    """The row of a border station that is fair with the lower of two nets or with the higher one, but not with both."""
    if high > 0:
        docks = max(1, high, -low)
        return (name, docks, docks - max(0, low))
    return (name, max(1, -high), -high)


def _other_nets(nets, others):
    """The row of a border station with two different nets."""
    name, low, high = [(one[0], *sorted([one[1], two[1]])) for one, two in zip(nets, others) if one != two][0]
    return {name: _row_between(name, low, high)}


def _pair_of_one(ways, others):
    """A pair that stands in one of two tuples alone, one of a station with itself if there is one."""
    pairs = [pair for pair in [*ways, *others] if pair not in ways or pair not in others]
    loops = [pair for pair in pairs if pair[0] == pair[1]]
    return [*loops, *pairs][0]


def _level_row(name, net, kind):
    """The row of a border station that is at its end with the net, and the rides that it needs for this."""
    if kind == "empty":
        return ((name, max(1, -net), max(0, -net)), [(name, STREET) for _ in range(net)])
    return ((name, max(1, net), max(1, net) - max(0, net)), [(STREET, name) for _ in range(-net)])


def _way_that_closes(nets, pair, kind):
    """The stations of a way, brought to their ends, and the rides that make the way a ring."""
    start, goal = pair
    numbers = dict(nets)
    ends = []
    if start != goal:
        ends = [(goal, start)]
        numbers[start] = numbers[start] + 1
        numbers[goal] = numbers[goal] - 1
    chosen = {}
    for name in sorted(set([start, goal])):
        chosen[name], more = _level_row(name, numbers[name], kind)
        ends = [*ends, *more]
    return (chosen, ends)


def _other_ways(nets, every, more):
    """Where two districts differ in their ways: a way of one alone is closed to a ring."""
    if RING in (every, more):
        return ({}, [])
    if every[1] != more[1]:
        return _way_that_closes(nets, _pair_of_one(every[1], more[1]), "empty")
    return _way_that_closes(nets, _pair_of_one(every[2], more[2]), "full")


def _rides_that_balance(nets, names):
    """As few rides between the border stations as bring all their nets to 0, as pairs of start and goal."""
    starts = [name for name, net in nets if name in names for _ in range(net)]
    goals = [name for name, net in nets if name in names for _ in range(-net)]
    return list(zip(starts, goals))


def _smallest_of_one(lots, others, at):
    """The fewest names of a lot without bikes (1) or without room (2) that the other form does not have, or None."""
    one = [row[0] for row in lots if not row[at]]
    two = [row[0] for row in others if not row[at]]
    names = [(len(row), row) for row in [*one, *two] if row not in one or row not in two]
    return min(names)[1] if len(names) > 0 else None


def _other_lots(nets, some, more, fresh):
    """Where two districts differ in their lots: one of one alone has its border stations empty, or full.

    As it has as few border stations as can be, each lot of the other district
    that touches them has a bike, or room, or reaches a station in the middle.
    """
    if DEAD in (some, more):
        return ({}, [])
    for at, bikes in ((1, 0), (2, 1)):
        names = _smallest_of_one(some[2], more[2], at)
        if names is not None:
            return ({name: (name, 1, bikes) for name in names}, _rides_that_balance(nets, names))
    # All these lots are the same, so a border station that is alive in one is without rides in the other.
    name = [name for name in [*some[1], *more[1]] if name not in some[1] or name not in more[1]][0]
    return ({name: (name, 1, 0)}, [(name, fresh), (fresh, name)])


def _what_differs(form, other, fresh):
    """The rows of border stations that are not in the middle, and the ends of the further rides."""
    if UNFAIR in (form, other):
        return ({}, [])
    _, nets, every, some = form
    _, other_nets, other_every, other_some = other
    if nets != other_nets:
        return (_other_nets(nets, other_nets), [])
    if every != other_every:
        return _other_ways(nets, every, other_every)
    return _other_lots(nets, some, other_some, fresh)


def part(first, second):
    """A surrounding in which the answers for two handy districts differ, or None if there is none."""
    if sorted(first.border) != sorted(second.border):
        raise OtherBorder()
    _check_handy(first)
    _check_handy(second)
    form, other = note_of(first).form, note_of(second).form
    if form == other:
        return None
    stations = [station[0] for station in [*first.stations, *second.stations]]
    fresh = _fresh_names("s", [*stations, *first.border])[0]
    chosen, ends = _what_differs(form, other, fresh)
    return _surrounding(first, second, chosen, ends)
