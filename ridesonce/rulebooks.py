"""Books of rules: who may start when ([64] to [67])."""

from ridesonce.errors import BadLine, UnknownStation
from ridesonce.notation import is_number, split_lines
from ridesonce.steps import able
from ridesonce.towns import STREET, check_count, is_name

MOST_LINES = 40
MOST_CONDITIONS = 12
EVERYBODY = "*"
COUNTED = ("bikes", "free")


def _read_condition(words):
    """The condition that the words tell, or None."""
    if len(words) == 2 and words[0] in ("done", "waits") and is_name(words[1]):
        return (words[0], words[1])
    if len(words) == 4 and words[0] in COUNTED and is_name(words[1]):
        if words[2] in (">=", "<=") and is_number(words[3]):
            return (words[0], words[1], words[2], int(words[3]))
    return None


def _read_conditions(words):
    """The conditions that the words behind WHO tell, or None."""
    found = []
    joint = "when"
    while len(words) > 0:
        # Words of the language may be names, so a condition is told by its length alone.
        many = 5 if len(words) > 1 and words[1] in COUNTED else 3
        condition = _read_condition(words[1:many])
        if words[0] != joint or condition is None:
            return None
        found.append(condition)
        words = words[many:]
        joint = "and"
    return tuple(found) if len(found) <= MOST_CONDITIONS else None


def _read_line(line):
    """The pair of WHO and the conditions of a line, or None."""
    words = line.split(" ")
    if len(words) < 2 or words[0] != "let" or not (words[1] == EVERYBODY or is_name(words[1])):
        return None
    conditions = _read_conditions(words[2:])
    return None if conditions is None else (words[1], conditions)


def _read_book(text):
    lines, unended = split_lines(text)
    found = []
    for number, line in enumerate(lines, start=1):
        pair = _read_line(line)
        if pair is None or number > MOST_LINES:
            raise BadLine(number)
        found.append(pair)
    if unended:
        raise BadLine(len(lines) + 1)
    return tuple(found)


def _written(lines):
    """The text of a book with these lines."""
    text = ""
    for who, conditions in lines:
        told = [" ".join([str(part) for part in condition]) for condition in conditions]
        words = ["let", who] if len(told) == 0 else ["let", who, "when", " and ".join(told)]
        text = text + " ".join(words) + "\n"
    return text


def _both(first, second):
    """A line for each line of the first and each of the second that speak for the same ride."""
    found = []
    for who, conditions in first:
        for other, more in second:
            if who == other or EVERYBODY in (who, other):
                found.append((other if who == EVERYBODY else who, (*conditions, *more)))
    return found


def check_stations(town, book):
    """Raise an error for the first station in the book that the town does not have."""
    known = [station[0] for station in town.stations]
    for _, conditions in book.lines:
        for condition in conditions:
            if condition[0] in COUNTED and condition[1] not in known:
                raise UnknownStation(condition[1])


def _holds(town, names, condition):
    """Whether a condition holds in the town as it stands, with rides of these names."""
    word, name = condition[:2]
    if word == "done":
        return name not in names
    if word == "waits":
        return name in names
    number = town.bikes(name) if word == "bikes" else town.free(name)
    _, _, sign, limit = condition
    return number >= limit if sign == ">=" else number <= limit


def names_let(town, book):
    """The names of all rides that the book lets in the town as it stands; the town has its stations."""
    names = [ride[0] for ride in town.rides]
    spoken = []
    for who, conditions in book.lines:
        if all([_holds(town, names, condition) for condition in conditions]):
            spoken.append(who)
    return [ride[0] for ride in town.rides if ride[1] == STREET or ride[0] in spoken or EVERYBODY in spoken]


class RuleBook:
    """Lines that each let a ride, or all rides, start when conditions hold; a book never changes."""

    def __init__(self, text):
        self.lines = _read_book(text)
        self._text = text

    @property
    def text(self):
        """The text of the book."""
        return self._text

    def lets(self, town, name):
        """Whether the book lets a ride start in the town as it stands, able or not."""
        town.ride(name)
        check_stations(town, self)
        return name in names_let(town, self)

    def __and__(self, other):
        lines = _both(self.lines, other.lines)
        check_count(len(lines), MOST_LINES)
        for _, conditions in lines:
            check_count(len(conditions), MOST_CONDITIONS)
        return RuleBook(_written(lines))

    def __or__(self, other):
        lines = [*self.lines, *other.lines]
        check_count(len(lines), MOST_LINES)
        return RuleBook(_written(lines))


def let_rides(town, book):
    """The names of the able rides that the book lets."""
    check_stations(town, book)
    names = names_let(town, book)
    return [name for name in able(town) if name in names]
