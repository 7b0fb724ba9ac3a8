"""Papers that show that there is no end: a maker in which the same atom is wanted at two places, one below the other.

Such a paper is a tuple ("endless", maker, place, deeper).
"""

from onlygiven.errors import InvalidPaper
from onlygiven.makerwalks import goal_found, is_below


def check_repeat(spots, place, deeper):
    """place and deeper, any values, are such places of the maker of these spots."""
    goal = goal_found(spots, place)
    if goal is None:
        raise InvalidPaper("place", -1)
    below = goal_found(spots, deeper)
    if below is None or not is_below(goal, below):
        raise InvalidPaper("deeper", -1)
    if below[2] != goal[2]:
        raise InvalidPaper("atom", -1)
