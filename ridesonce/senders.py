"""The rule that brings everybody home if anything can ([27])."""

from ridesonce.rules import Rule
from ridesonce.some import wise_rides


class Wise(Rule):
    """Picks among the wise rides as the rule that was passed ranks them."""

    def __init__(self, rule):
        self._rule = rule

    def choices(self, town):
        """The wise rides; raises NotFair if the town is not fair."""
        return wise_rides(town)

    def rank(self, town, name):
        """The rank that the rule that was passed gives; the town need not be fair."""
        return self._rule.rank(town, name)
