"""What tests about rules use: random books, and a second way to read them and to go by them."""

from helper import moves, names_of, standing_of, state_of, steps_of, places_of
from ridesonce.rulebooks import RuleBook
from ridesonce.towns import Town


def random_condition(chance, stations, names):
    word = chance.choice(["bikes", "free", "done", "waits"] if stations else ["done", "waits"])
    if word in ("done", "waits"):
        return f"{word} {chance.choice(names)}"
    return f"{word} {chance.choice(stations)} {chance.choice(['>=', '<='])} {chance.randint(0, 3)}"


def random_book(chance, town, *, most_lines=4):
    """A book whose lines speak for the town's riders, for all, or for nobody."""
    stations = [station[0] for station in town.stations]
    names = names_of(town) + ["nobody"]
    text = ""
    for _ in range(chance.randint(0, most_lines)):
        conditions = [random_condition(chance, stations, names) for _ in range(chance.choice([0, 0, 1, 1, 2, 3]))]
        text += "let " + chance.choice(names + ["*", "*"])
        text += (" when " + " and ".join(conditions) if conditions else "") + "\n"
    return RuleBook(text)


def holds(town, state, condition):
    """Whether a condition, told as its words, holds in a state."""
    words = condition.split(" ")
    riders = [ride[0] for ride in state[1]]
    if words[0] in ("done", "waits"):
        return (words[1] in riders) == (words[0] == "waits")
    at = [station[0] for station in town.stations].index(words[1])
    number = state[0][at] if words[0] == "bikes" else town.stations[at][1] - state[0][at]
    return number >= int(words[3]) if words[2] == ">=" else number <= int(words[3])


def is_let(town, state, text, name):
    """Whether the text of a book lets a ride of the state; for texts in which no name is a word of the language."""
    start = {ride[0]: ride[1] for ride in state[1]}[name]
    found = start == "street"
    for line in text.splitlines():
        who, _, rest = line[len("let "):].partition(" when ")
        if who in ("*", name):
            found = found or all(holds(town, state, condition) for condition in rest.split(" and ") if condition)
    return found


def moves_by(town, state, text):
    """The able rides of a state that the book lets, each with the state after its step."""
    return [(name, after) for name, after in moves(town, state) if is_let(town, state, text, name)]


def reached_by(town, step):
    """All states that can be reached by a kind of step, each with a shortest order."""
    found, fresh = {state_of(town): []}, [state_of(town)]
    while fresh:
        state = fresh.pop(0)
        for name, after in step(state):
            if after not in found:
                found[after] = found[state] + [name]
                fresh.append(after)
    return found


def town_in(town, state):
    """The town as it stands in a state."""
    bikes, rides = state
    return Town([(name, docks, count) for (name, docks, _), count in zip(town.stations, bikes)], list(rides))


def in_standing_order(town, states):
    """States with their standings, in the order of the document."""
    rows = [(*standing_of(town, state), state) for state in states]
    return sorted(rows, key=lambda row: (steps_of(town, *row[:2]), places_of(town, row[0]), places_of(town, row[1])))
