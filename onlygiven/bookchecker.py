"""The checker of books."""

from onlygiven.errors import InvalidPaper
from onlygiven.kinds import is_entry


def lets_book(thing):
    """How many names the book has; InvalidPaper if it is no book."""
    if not isinstance(thing, tuple):
        raise InvalidPaper("shape", -1)
    for k, entry in enumerate(thing):
        if not is_entry(entry):
            raise InvalidPaper("entry", k)
        if k > 0 and entry[0] <= thing[k - 1][0]:
            raise InvalidPaper("order", k)
    return len(thing)
