"""Makers with more and more copies of a piece of them."""

from onlygiven.goals import maker_from
from onlygiven.kinds import is_number
from onlygiven.makerwalks import goal_found, is_below, sizes_of, usable_spots
from onlygiven.outlooks import check_wish
from onlygiven.usable import check_usable


def raised(row, floor, by):
    """The row of heads in which the variables from number floor on have greater numbers."""
    return [
        (head if isinstance(head, str) or head < floor else head + by, many) for head, many in row
    ]


def is_deeper(goal, below):
    """Whether the second goal stands below the first one and wants the same atom."""
    return is_below(goal, below) and goal[2] == below[2]


def pumped_row(spots, goal, below, times):
    """The heads of the pumped maker, places ascending, each with how many makers it has."""
    # What stands at a place and below it stands side by side here.
    row = [(part[0], len(part[1])) for _, part in spots]
    places = [spot[0][0] for spot in spots]
    sizes = sizes_of(spots)
    start = places.index(goal[0])
    end = start + sizes[start]
    low = places.index(below[0])
    high = low + sizes[low]
    floor = len(goal[1])
    step = len(below[1]) - floor
    ahead = [raised(row[start:low], floor, k * step) for k in range(times + 1)]
    behind = [raised(row[high:end], floor, k * step) for k in range(times, -1, -1)]
    inner = raised(row[low:high], floor, times * step)
    pieces = [row[:start], *ahead, inner, *behind, row[end:]]
    return [entry for piece in pieces for entry in piece]


def pumped(book, wish, maker, place, deeper, times):
    """The maker with so many copies of what stands at the place put in, each into the one before, at deeper."""
    check_wish(book, wish)
    spots = usable_spots(book, wish, maker, "maker")
    goal = goal_found(spots, place)
    check_usable(goal is not None, "place")
    below = goal_found(spots, deeper)
    check_usable(below is not None and is_deeper(goal, below), "deeper")
    check_usable(is_number(times), "times")
    return maker_from(pumped_row(spots, goal, below, times))
