"""The checker of worlds."""

from onlygiven.errors import InvalidPaper
from onlygiven.outlooks import check_wish
from onlygiven.worldrows import check_world, holds


def lets_world(book, wish, thing):
    """How many rows a world has that bars the wish; InvalidPaper if it does not."""
    check_wish(book, wish)
    check_world(thing)
    for k, entry in enumerate(book):
        if not holds(thing, 0, entry[1]):
            raise InvalidPaper("name", k)
    if holds(thing, 0, wish):
        raise InvalidPaper("wish", -1)
    return len(thing)
