"""All standings of a small town and the steps that lead from one to another ([28], [30])."""

from ridesonce.standings import all_that_come, town_after
from ridesonce.steps import able


def _standing_after(town, done, road, name):
    """The standing after a step of the ride, as a key: two tuples in town order."""
    names = [ride[0] for ride in town.rides]
    if town.ride(name)[3] or name in road:
        return (
            tuple([one for one in names if one == name or one in done]),
            tuple([one for one in road if one != name]),
        )
    return (tuple(done), tuple([one for one in names if one == name or one in road]))


def all_moves(town):
    """All standings that can come, in order, each as a row of four.

    The first two are who is done and who is on the road, the third is the town
    as it stands then. The last one holds the steps: pairs of the name of an
    able ride and the position of the row that it leads to, which is a later one.
    """
    rows = all_that_come(town)
    positions = {(tuple(done), tuple(road)): at for at, (done, road) in enumerate(rows)}
    found = []
    for done, road in rows:
        now = town_after(town, done, road)
        steps = [(name, positions[_standing_after(town, done, road, name)]) for name in able(now)]
        found.append((done, road, now, steps))
    return found
