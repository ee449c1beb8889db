"""What tests about logbooks use: logs with random notes, and a search through all worlds."""

from helper import moves, reached_states, standing_of, state_of, steps_of, places_of
from ridesonce.logbooks import Logbook


def log_of(town, notes, *, slips=0):
    """A log with these notes, tuples of moment, station and count."""
    log = Logbook(town, slips=slips)
    for moment, station, count in notes:
        log[moment, station] = count
    return log


def random_notes(chance, town, most):
    """Notes at different places, many of them as the town may well have been."""
    states = list(reached_states(town))
    names = [station[0] for station in town.stations]
    notes = {}
    for _ in range(chance.randint(0, most) if names else 0):
        at = chance.randrange(len(names))
        count = chance.choice([chance.choice(states)[0][at], chance.randint(0, town.stations[at][1])])
        notes[chance.randint(1, 4), names[at]] = count
    return [(*place, count) for place, count in notes.items()]


def states_behind(town, state):
    """All states that steps lead to from a state, with itself."""
    found, fresh = {state: True}, [state]
    while fresh:
        here = fresh.pop()
        for _, after in moves(town, here):
            if after not in found:
                found[after] = True
                fresh.append(after)
    return list(found)


def wrong_at(town, state, moment, notes):
    """The number of notes of the moment that tell another number than the state has."""
    names = [station[0] for station in town.stations]
    return sum(at == moment and state[0][names.index(name)] != count for at, name, count in notes)


def all_worlds(town, notes, slips):
    """All fitting worlds, told by their states at the four moments."""
    behind = {state: states_behind(town, state) for state in reached_states(town)}
    rows = [((), 0)]
    for moment in (1, 2, 3, 4):
        grown = []
        for states, wrong in rows:
            for state in behind[states[-1] if states else state_of(town)]:
                more = wrong + wrong_at(town, state, moment, notes)
                if more <= slips:
                    grown.append(((*states, state), more))
        rows = grown
    return [states for states, _ in rows]


def standings_at(town, worlds, moment, *, stopped=False):
    """The standings of the worlds at a moment, in the order of the document."""
    states = {world[moment - 1]: True for world in worlds}
    found = [standing_of(town, state) for state in states if not stopped or not moves(town, state)]
    return sorted(found, key=lambda row: (steps_of(town, *row), places_of(town, row[0]), places_of(town, row[1])))


def state_of_rider(town, state, name):
    done, road = standing_of(town, state)
    return "done" if name in done else "road" if name in road else "waiting"
