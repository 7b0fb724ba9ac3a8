"""The error that is due for an argument that is not as stated."""

from onlygiven.errors import NotUsable


def check_usable(fits, word):
    """NotUsable for the parameter of this name, if its argument does not fit."""
    if not fits:
        raise NotUsable(word, -1)
