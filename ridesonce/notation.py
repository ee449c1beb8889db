"""Towns as text ([9], [10])."""

from ridesonce.errors import BadLine, RidesError
from ridesonce.towns import Town

DIGITS = "0123456789"
MOST_DIGITS = 6


def is_number(word):
    """Whether the word is a number as it is written in all texts."""
    if not 1 <= len(word) <= MOST_DIGITS:
        return False
    return all([sign in DIGITS for sign in word]) and (word == "0" or word[0] != "0")


def split_lines(text):
    """The lines of a text that end with a newline, and whether there is one more that does not."""
    rows = text.split("\n")
    return (rows[:-1], rows[-1] != "")


def _ride_line(ride):
    name, start, goal, kept = ride
    return f"ride {name} {start} {goal}\n" if kept else f"ride {name} {start} {goal} unkept\n"


def write_town(town):
    """The text of a town."""
    rows = [f"station {name} {docks} {bikes}\n" for name, docks, bikes in town.stations]
    return "".join(rows + [_ride_line(ride) for ride in town.rides])


def _is_station_line(words):
    return words[0] == "station" and len(words) == 4 and is_number(words[2]) and is_number(words[3])


def _is_ride_line(words):
    if words[0] != "ride":
        return False
    return len(words) == 4 or (len(words) == 5 and words[4] == "unkept")


def _with_line(town, words):
    if _is_station_line(words):
        station = (words[1], int(words[2]), int(words[3]))
        return Town([*town.stations, station], town.rides)
    return town.with_ride(words[1], words[2], words[3], kept=len(words) == 4)


def read_town(text):
    """The town of a text; raises BadLine with the number of the first wrong line."""
    lines, unended = split_lines(text)
    town = Town.empty()
    for line, words in enumerate([row.split(" ") for row in lines], start=1):
        if not (_is_station_line(words) or _is_ride_line(words)):
            raise BadLine(line)
        try:
            town = _with_line(town, words)
        except RidesError:
            raise BadLine(line) from None
    if unended:
        raise BadLine(len(lines) + 1)
    return town
