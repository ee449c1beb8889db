"""What several tests use: sample towns, and a second, slow way to find answers by trying all orders."""

import itertools
import random

from ridesonce import errors
from ridesonce.towns import Town

DRY_STATIONS = [("a", 2, 0), ("b", 2, 0), ("c", 2, 1)]
DRY_RIDES = [("r1", "a", "b", True), ("r2", "b", "a", True), ("r3", "c", "a", True), ("r4", "a", "c", True)]
BRIM_STATIONS = [("a", 1, 1), ("b", 1, 1), ("c", 1, 0)]
BRIM_RIDES = [("r1", "a", "b", True), ("r2", "b", "a", True), ("r3", "a", "c", True), ("r4", "c", "a", True)]
# Far longer than any answer may take, far shorter than going through all orders.
SECONDS = 10


def dry():
    return Town(list(DRY_STATIONS), list(DRY_RIDES))


def brim():
    return Town(list(BRIM_STATIONS), list(BRIM_RIDES))


def rows(town):
    """All that a town tells of itself, as values that can be compared."""
    return (town.stations, town.rides)


def names_of(town):
    return [ride[0] for ride in town.rides]


def error_of(call, *values, **named):
    """The name and the values of the error that a call raises, None if it raises none."""
    try:
        call(*values, **named)
    except errors.RidesError as error:
        return (error.__class__.__name__, *vars(error).values())
    return None


def random_rides(chance, stations, *, most_rides, most_passes):
    """Rides mostly between stations, as many as fit; none where there is no station."""
    places = list(stations) * 6 + ["street"]
    rides, passes = [], 0
    for at in range(chance.choice([chance.randint(0, most_rides), most_rides]) if stations else 0):
        start = chance.choice(places)
        goal = chance.choice([place for place in places if place != start])
        kept = "street" in (start, goal) or chance.random() < 0.7
        passes += 1 if kept else 2
        if passes <= most_passes:
            rides.append((f"r{at}", start, goal, kept))
    return rides


def random_towns(number, seed=1, *, most_stations=4, most_rides=8, most_passes=8):
    """Towns picked by a generator of random numbers, fair or not."""
    chance = random.Random(seed)
    found = []
    for _ in range(number):
        stations = []
        for at in range(chance.choice([chance.randint(0, most_stations), 2, 3])):
            docks = chance.randint(1, 3)
            stations.append((f"s{at}", docks, chance.choice([0, docks, chance.randint(0, docks)])))
        names = [station[0] for station in stations]
        found.append(Town(stations, random_rides(chance, names, most_rides=most_rides, most_passes=most_passes)))
    return found


def fitting_station(chance, name, net):
    """A station that is fair with so many more rides to it than from it, and often empty or full in the end."""
    if net < 0 or (net == 0 and chance.random() < 0.5):
        end = chance.choice([0, 0, 0, 0, 1])
        return (name, max(1, end - net, end) + chance.choice([0, 0, 1]), end - net)
    docks = net + chance.choice([1, 2]) if net == 0 else net + chance.choice([0, 1])
    return (name, docks, docks - net - (chance.choice([0, 0, 0, 0, 1]) if docks > net else 0))


def fair_towns(number, seed=1, *, most_stations=4, most_rides=8, most_passes=8):
    """Fair towns, many of them with rings and dead lots."""
    chance = random.Random(seed)
    found = []
    for _ in range(number):
        names = [f"s{at}" for at in range(chance.choice([chance.randint(0, most_stations), 2, 3]))]
        rides = random_rides(chance, names, most_rides=most_rides, most_passes=most_passes)
        nets = [sum(ride[2] == name for ride in rides) - sum(ride[1] == name for ride in rides) for name in names]
        stations = [fitting_station(chance, name, net) for name, net in zip(names, nets)]
        found.append(Town(stations, rides))
    return found


def ring_towns(number, seed=1, *, most_rides=8):
    """Fair towns whose rides are joined from rings, at stations that are all empty or all full in the end."""
    chance = random.Random(seed)
    found = []
    for _ in range(number):
        level = chance.choice([0, 3])
        names = [f"s{at}" for at in range(chance.randint(2, 6))]
        rides, many = [], chance.randint(2, most_rides)
        while many - len(rides) >= 2:
            row = chance.sample(names, chance.randint(2, min(len(names), many - len(rides))))
            rides += [(f"r{len(rides) + at}", row[at - 1], row[at], True) for at in range(len(row))]
        found.append(Town([(name, 3, level) for name in names], rides))
    return found


def end_numbers(town):
    return {
        name: bikes + sum(ride[2] == name for ride in town.rides) - sum(ride[1] == name for ride in town.rides)
        for name, _, bikes in town.stations
    }


def is_fair(town):
    return all(0 <= end_numbers(town)[name] <= docks for name, docks, _ in town.stations)


def large_town():
    """A fair town with 12 stations and 24 unkept or kept rides in rings of both kinds, and street rides."""
    stations = [("empty%d" % at, 999999, 0) for at in range(4)]
    stations += [("full%d" % at, 999999, 999999) for at in range(4)]
    stations += [("mid%d" % at, 999999, 500000) for at in range(4)]
    rides = []
    for word, kept in (("empty", False), ("full", True)):
        for at in range(4):
            rides.append((f"{word[0]}a{at}", f"{word}{at}", f"{word}{(at + 1) % 4}", kept))
        rides.append((f"{word[0]}b", f"{word}2", f"{word}0", kept))
        rides.append((f"{word[0]}c", f"{word}0", f"{word}2", kept))
    for at in range(4):
        rides.append((f"in{at}", f"mid{at}", f"empty{at}", at % 2 == 0))
        rides.append((f"out{at}", f"empty{at}", f"mid{at}", at % 2 == 1))
    rides += [("x0", "full0", "mid1", True), ("x1", "mid1", "full0", True)]
    rides += [("y0", "street", "mid2", True), ("y1", "mid2", "street", True)]
    return Town(stations, rides)


# A state is the pair of the numbers of bikes and of the rides; it is changed by rules that are written here anew.
def state_of(town):
    return (tuple(station[2] for station in town.stations), town.rides)


def moves(town, state):
    """The names of the able rides of a state, each with the state after its step."""
    at = {station[0]: k for k, station in enumerate(town.stations)}
    docks = [station[1] for station in town.stations]
    bikes, rides = state
    found = []
    for k, (name, start, goal, kept) in enumerate(rides):
        after = list(bikes)
        if start != "street":
            after[at[start]] -= 1
        if kept and goal != "street":
            after[at[goal]] += 1
        if all(0 <= number <= most for number, most in zip(after, docks)):
            new = () if kept else ((name, "street", goal, True),)
            found.append((name, (tuple(after), rides[:k] + new + rides[k + 1:])))
    return found


def reached_states(town):
    """Every state that orders of the town lead to, with one order that leads there."""
    found = {state_of(town): []}
    fresh = [state_of(town)]
    while fresh:
        state = fresh.pop()
        for name, after in moves(town, state):
            if after not in found:
                found[after] = found[state] + [name]
                fresh.append(after)
    return found


def final_states(town):
    return [state for state in reached_states(town) if not moves(town, state)]


def left_lists(town):
    """Every list of names that some final order leaves."""
    return sorted({tuple(ride[0] for ride in state[1]) for state in final_states(town)})


def lists_out_of(names):
    """All lists out of the names: fewer names first, then by positions."""
    return [list(row) for many in range(len(names) + 1) for row in itertools.combinations(names, many)]


def places_of(town, names):
    """The positions of the names, by which lists are compared."""
    return [names_of(town).index(name) for name in names]


def in_family_order(town, rows):
    return sorted(rows, key=lambda row: (len(row), places_of(town, row)))


def standing_of(town, state):
    """Who is done and who is on the road in a state that the town came to."""
    now = {ride[0]: ride for ride in state[1]}
    done = [name for name in names_of(town) if name not in now]
    return done, [ride[0] for ride in town.rides if now.get(ride[0], ride) != ride]


def steps_of(town, done, road):
    return sum(1 if town.ride(name)[3] else 2 for name in done) + len(road)


def reached_standings(town):
    """All standings of the town with an order that leads to each, in the order of the document."""
    found = [(*standing_of(town, state), order) for state, order in reached_states(town).items()]
    return sorted(found, key=lambda row: (steps_of(town, *row[:2]), places_of(town, row[0]), places_of(town, row[1])))


def has_complete(town):
    return () in left_lists(town)


def state_after(town, order):
    """The state after an order, None if a step cannot be made."""
    state = state_of(town)
    for name in order:
        state = dict(moves(town, state)).get(name)
        if state is None:
            return None
    return state


def left_after(town, order):
    """The names that a final order leaves; None if the list is no final order."""
    state = state_after(town, order)
    if state is None or moves(town, state):
        return None
    return [ride[0] for ride in state[1]]


def inside(town, kind):
    """The rides of which rings of the kind consist."""
    docks = {station[0]: station[1] for station in town.stations}
    ends = end_numbers(town)
    good = [name for name in docks if ends[name] == (0 if kind == "empty" else docks[name])]
    return [ride for ride in town.rides if ride[1] in good and ride[2] in good and (ride[3] or kind == "empty")]


def is_ring(town, kind, names):
    """Whether the list is a ring of the kind, tested word by word."""
    rides = {ride[0]: ride for ride in inside(town, kind)}
    if len(names) < 2 or any(name not in rides for name in names):
        return False
    linked = all(rides[one][2] == rides[two][1] for one, two in zip(names, names[1:] + names[:1]))
    return linked and len({rides[name][1] for name in names}) == len(names)


def all_rings(town):
    """All bad rings in the order of the document, out of all rows of rides."""
    found = []
    position = {name: at for at, name in enumerate(names_of(town))}
    for kind in ("empty", "full"):
        names = [ride[0] for ride in inside(town, kind)]
        for many in range(2, min(len(names), len(town.stations)) + 1):
            for row in itertools.permutations(names, many):
                if position[row[0]] == min(position[name] for name in row) and is_ring(town, kind, list(row)):
                    found.append((kind, list(row)))
    return found


def rings_of_sorts(rides, kept_alone):
    """All rings of a table of sorts, each beginning with its first sort, found by going on from ride to ride."""
    rides = [ride for ride in rides if "street" not in ride[1:3] and (ride[3] or not kept_alone)]
    found = []

    def walk(row):
        if rides[row[-1]][2] == rides[row[0]][1]:
            found.append([rides[at][0] for at in row])
            return
        for at in range(row[0] + 1, len(rides)):
            if rides[at][1] == rides[row[-1]][2] and rides[at][1] not in [rides[k][1] for k in row]:
                walk(row + [at])

    for at in range(len(rides)):
        walk([at])
    return found


def crowd_numbers(town, crowd):
    """The crowd's end numbers, told word by word."""
    return {name: bikes + sum(crowd[ride[0]] for ride in town.rides if ride[2] == name)
            - sum(crowd[ride[0]] for ride in town.rides if ride[1] == name) for name, _, bikes in town.stations}


def crowd_is_fair(town, crowd):
    numbers = crowd_numbers(town, crowd)
    return all(0 <= numbers[name] <= docks for name, docks, _ in town.stations)


def ring_of_crowd(town, crowd):
    """The kind and the sorts of a ring that the crowd brings to its ends, or None."""
    docks = {name: number for name, number, _ in town.stations}
    numbers = crowd_numbers(town, crowd)
    rides = [ride for ride in town.rides if crowd[ride[0]] > 0]
    for kind in ("empty", "full"):
        for ring in rings_of_sorts(rides, kind == "full"):
            places = [town.ride(name)[1] for name in ring]
            if all(numbers[place] == (0 if kind == "empty" else docks[place]) for place in places):
                return kind, ring
    return None


def shows_a_ring(town, kind, ring, crowd):
    """Whether a crowd is fair and brings a ring to its ends, as the document says of always."""
    if list(crowd) != names_of(town) and sorted(crowd) != sorted(names_of(town)):
        return False
    if any(not 0 <= number <= 10 ** 9 for number in crowd.values()) or not crowd_is_fair(town, crowd):
        return False
    rides = [town.ride(name) for name in ring]
    linked = all(one[2] == two[1] for one, two in zip(rides, rides[1:] + rides[:1]))
    places = [ride[1] for ride in rides]
    if len(ring) < 2 or not linked or len(set(places)) < len(places) or "street" in places:
        return False
    numbers = crowd_numbers(town, crowd)
    if kind == "empty":
        right = all(numbers[place] == 0 for place in places)
    else:
        right = all(ride[3] for ride in rides) and all(numbers[place] == town.docks(place) for place in places)
    return kind in ("empty", "full") and right and all(crowd[name] >= 1 for name in ring)
