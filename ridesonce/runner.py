"""A town as it stands and the steps that led there ([19])."""

from ridesonce.errors import NothingToUndo
from ridesonce.steps import go


class Runner:
    """Makes the steps of a town one after another and takes them back."""

    def __init__(self, town):
        # Tuples, made anew at each step: who iterates over a runner goes over the towns of that moment.
        self._towns = (town,)
        self._order = ()

    @property
    def town(self):
        """The town as it stands."""
        return self._towns[-1]

    @property
    def order(self):
        """The names that went so far, in the order in which they went."""
        return list(self._order)

    @property
    def left(self):
        """The names of the rides that the town still has."""
        return [ride[0] for ride in self._towns[-1].rides]

    def go(self, name):
        """Make a step."""
        self._towns = (*self._towns, go(self._towns[-1], name))
        self._order = (*self._order, name)

    def back(self):
        """Take back the last step and return its name."""
        if len(self._order) == 0:
            raise NothingToUndo()
        name = self._order[-1]
        self._towns = self._towns[:-1]
        self._order = self._order[:-1]
        return name

    def follow(self, rule):
        """Make the steps by which the rule goes on, and return their number."""
        order, _ = rule(self._towns[-1])
        for name in order:
            self.go(name)
        return len(order)

    def __len__(self):
        return len(self._order)

    def __iter__(self):
        return iter(self._towns)
