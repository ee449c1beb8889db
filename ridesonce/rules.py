"""Rules that pick who goes next ([17], [18])."""

from ridesonce.steps import able, go
from ridesonce.towns import STREET

BEHIND_ALL_KEPT = 1000000


class Rule:
    """Picks the able ride that is first in town order."""

    def choices(self, town):
        """The names among which the rule picks."""
        return able(town)

    def rank(self, town, name):
        """The rank of a ride, able or not; the least one is picked."""
        town.ride(name)
        return 0

    def pick(self, town):
        """The name that goes next, or None if there are no choices."""
        ranked = [(self.rank(town, name), town.position(name), name) for name in self.choices(town)]
        return min(ranked)[2] if len(ranked) > 0 else None

    def __call__(self, town):
        """Go on until nothing is picked; the names that went and the town after it."""
        order = []
        name = self.pick(town)
        while name is not None:
            town = go(town, name)
            order.append(name)
            name = self.pick(town)
        return order, town


class LastBooked(Rule):
    """Picks the last one in town order."""

    def rank(self, town, name):
        """Minus the position of the ride."""
        return -town.position(name)


class FullestStart(Rule):
    """Picks a ride from where most bikes are."""

    def rank(self, town, name):
        """Minus the number of bikes at the start, and 0 for the street."""
        start = town.ride(name)[1]
        return 0 if start == STREET else -town.bikes(start)


class EmptiestGoal(Rule):
    """Picks a ride to where fewest bikes are, and to the street before all."""

    def rank(self, town, name):
        """The number of bikes at the goal, and -1 for the street."""
        goal = town.ride(name)[2]
        return -1 if goal == STREET else town.bikes(goal)


class KeptFirst(FullestStart):
    """Picks as FullestStart does, but unkept rides only if no kept one is able."""

    def rank(self, town, name):
        """The rank of FullestStart, and much more for an unkept ride."""
        rank = super().rank(town, name)
        return rank if town.ride(name)[3] else rank + BEHIND_ALL_KEPT
