"""Whether a wish has a maker, and the least one."""

from onlygiven.goals import least_maker
from onlygiven.outlooks import outlook_for


def can_make(book, wish):
    """Whether the wish has a maker over the book."""
    return outlook_for(book, wish).has_maker()


def smallest_maker(book, wish):
    """The least maker of the wish, None if there is none."""
    outlook = outlook_for(book, wish)
    return least_maker(outlook, {}) if outlook.has_maker() else None
