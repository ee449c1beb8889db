"""Scripts: lines that are executed at a desk ([76] to [78])."""

from ridesonce.deeds import read_deed
from ridesonce.desks import GUARDS, VERDICTS
from ridesonce.ends import ends
from ridesonce.errors import BadLine, RidesError
from ridesonce.leftover import LeftFamily
from ridesonce.notation import is_number, split_lines
from ridesonce.rules import Rule
from ridesonce.senders import Wise
from ridesonce.some import wise_rides
from ridesonce.steps import able
from ridesonce.sure import sure_riders
from ridesonce.towns import check_count
from ridesonce.worst import worst

MOST_OPENINGS = 4
MOST_EXECUTED = 100
END = "end"
ALL = "all"


def _told(word, parts):
    return " ".join([word, *parts])


def _ask_verdict(desk):
    return _told("verdict", [desk.verdict()])


def _ask_able(desk):
    return _told("able", able(desk.town))


def _ask_wise(desk):
    return _told("wise", wise_rides(desk.town))


def _ask_sure(desk):
    return _told("sure", sure_riders(desk.town))


def _ask_left(desk):
    return _told("left", [str(len(LeftFamily(desk.town)))])


def _ask_worst(desk):
    return _told("worst", [str(worst(desk.town)[0])])


def _ask_ends(desk):
    return _told("ends", [f"{name}={end}" for name, end in ends(desk.town).items()])


def _ask_riders(desk):
    return _told("riders", [f"{name}={state}" for name, state in desk.riders.items()])


QUESTIONS = {
    "ask verdict": _ask_verdict,
    "ask able": _ask_able,
    "ask wise": _ask_wise,
    "ask sure": _ask_sure,
    "ask left": _ask_left,
    "ask worst": _ask_worst,
    "ask ends": _ask_ends,
    "ask riders": _ask_riders,
}
WORDS_ALONE = ("undo", "redo", "send")


def _is_opening(line):
    words = line.split(" ")
    if line == ALL:
        return True
    if len(words) != 2:
        return False
    if words[0] == "again":
        return is_number(words[1]) and len(words[1]) == 1
    return words[0] == "if" and words[1] in VERDICTS


def _is_plain(line):
    """Whether the line is a plain one that is no deed."""
    words = line.split(" ")
    if len(words) == 2 and words[0] == "guard":
        return words[1] in GUARDS
    return line in WORDS_ALONE or line in QUESTIONS


def _may_stand(line, openings):
    """Whether the line may stand inside these openings, the outermost first."""
    if line == END:
        return len(openings) > 0
    if read_deed(line) is not None:
        return True
    if ALL in openings:
        return False
    if _is_opening(line):
        return len(openings) < MOST_OPENINGS
    return _is_plain(line)


def read_script(text):
    """The commands of a script; an opening is a tuple of its line and the commands up to its end."""
    lines, unended = split_lines(text)
    # Each opening that is not closed yet, with the number of its line and the commands behind it; first the script.
    levels = [(0, "", [])]
    for number, line in enumerate(lines, start=1):
        if not _may_stand(line, [opening for _, opening, _ in levels[1:]]):
            raise BadLine(number)
        if line == END:
            _, opening, commands = levels.pop()
            levels[-1][2].append((opening, commands))
        elif _is_opening(line):
            levels.append((number, line, []))
        else:
            levels[-1][2].append(line)
    if unended:
        raise BadLine(len(lines) + 1)
    if len(levels) > 1:
        raise BadLine(levels[-1][0])
    return levels[0][2]


def _times(opening):
    """How often the commands of an opening are executed if every `if` is done."""
    words = opening.split(" ")
    return int(words[1]) if words[0] == "again" else 1


def _count(commands):
    """The number of plain lines that would be executed if every `if` were done."""
    total = 0
    for command in commands:
        if isinstance(command, str):
            total = total + 1
        else:
            opening, inner = command
            total = total + _times(opening) * _count(inner)
    return total


def _send(desk):
    rule = Wise(Rule())
    order, _ = rule(desk.town)
    for name in order:
        desk.go(name)


def _execute(desk, line):
    """The answers to a plain line, one or none; raises what it raises at the desk."""
    words = line.split(" ")
    if line in QUESTIONS:
        action = QUESTIONS[line]
        return [action(desk)]
    if line == "undo":
        desk.undo()
    elif line == "redo":
        desk.redo()
    elif line == "send":
        _send(desk)
    elif words[0] == "guard":
        desk.set_guard(words[1])
    else:
        desk.all_of([line])
    return []


def _run_plain(desk, line):
    try:
        return _execute(desk, line)
    except RidesError:
        return [f"refused {line}"]


def _run_all(desk, commands):
    try:
        desk.all_of(commands)
    except RidesError:
        return [f"refused {ALL}"]
    return []


def _run_opening(desk, opening, commands):
    if opening == ALL:
        return _run_all(desk, commands)
    word, value = opening.split(" ")
    if word == "if":
        return _run(desk, commands) if desk.verdict() == value else []
    answers = []
    for _ in range(int(value)):
        answers.extend(_run(desk, commands))
    return answers


def _run(desk, commands):
    """Execute the commands one after another; their answers in order."""
    answers = []
    for command in commands:
        if isinstance(command, str):
            answers.extend(_run_plain(desk, command))
        else:
            opening, inner = command
            answers.extend(_run_opening(desk, opening, inner))
    return answers


def run_script(desk, text):
    """Execute a script on the desk; the answers to its questions, and what was refused."""
    commands = read_script(text)
    check_count(_count(commands), MOST_EXECUTED)
    return _run(desk, commands)
