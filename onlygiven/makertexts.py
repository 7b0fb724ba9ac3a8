"""The texts of makers."""

from onlygiven.kinds import is_maker
from onlygiven.makerwalks import usable_spots
from onlygiven.outlooks import check_wish
from onlygiven.usable import check_usable


def pieces_behind(makers):
    """What follows a head: signs as strings, and the makers."""
    pieces = []
    for maker in makers:
        pieces.append(", " if pieces else "(")
        pieces.append(maker)
    if pieces:
        pieces.append(")")
    return pieces


def maker_text(maker):
    """The text of a maker by form."""
    check_usable(is_maker(maker), "maker")
    written = []
    waiting = [maker]
    while waiting:
        piece = waiting.pop()
        if isinstance(piece, str):
            written.append(piece)
        else:
            written.append(str(piece[0]))
            behind = pieces_behind(piece[1])
            waiting.extend(behind[::-1])
    return "".join(written)


def tree_row(spot):
    """The row of a place."""
    (place, hand, atom), part = spot
    start = "  " * len(place) + str(part[0])
    return f"{start:<32}{len(hand):>3} {atom}"


def tree_rows(book, wish, maker):
    """The list of the rows of all places."""
    check_wish(book, wish)
    return [tree_row(spot) for spot in usable_spots(book, wish, maker, "maker")]
