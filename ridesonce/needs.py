"""What functions need of a town: that it is fair ([14]), that it is small ([7])."""

from ridesonce.ends import first_unfair
from ridesonce.errors import NotFair, TooLarge

MOST_PASSES = 8


def need_fair(town):
    """Raise NotFair with the first station that breaks it unless the town is fair."""
    unfair = first_unfair(town)
    if unfair is not None:
        station, end = unfair
        raise NotFair(station, end)


def need_small(town):
    """Raise TooLarge with the number of passes unless the town is small."""
    passes = town.passes()
    if passes > MOST_PASSES:
        raise TooLarge(passes)
