"""A board that shows the stations of a town ([79])."""

from ridesonce.ends import ends


def _word(end, docks):
    if not 0 <= end <= docks:
        return "unfair"
    if end == 0:
        return "empty"
    return "full" if end == docks else "between"


def board(town):
    """A text with a line for each station: its bikes, its docks, its end number, and what it is in the end."""
    numbers = ends(town)
    rows = [(name, bikes, docks, numbers[name]) for name, docks, bikes in town.stations]
    lines = [f"{name:<8}{bikes:>8}{docks:>8}{end:>8}  {_word(end, docks)}\n" for name, bikes, docks, end in rows]
    return "".join(lines)
