"""The checker of shut tables."""

from onlygiven.errors import InvalidPaper
from onlygiven.outlooks import check_wish
from onlygiven.shutstands import check_shut, check_stands
from onlygiven.stands import stand_of_wish


def lets_shut(book, wish, thing):
    """How many stands a shut table of the wish has; InvalidPaper if it is none."""
    check_wish(book, wish)
    if not isinstance(thing, tuple):
        raise InvalidPaper("shape", -1)
    check_stands(thing)
    if stand_of_wish(wish) not in thing:
        raise InvalidPaper("first", -1)
    check_shut(book, thing)
    return len(thing)
