"""Makers: their checker, and what they consist of."""

from onlygiven.kinds import is_maker, is_name
from onlygiven.makerwalks import goal_found, part_found, placed_parts, spots_of, usable_spots
from onlygiven.outlooks import check_wish
from onlygiven.usable import check_usable


def lets_maker(book, wish, thing):
    """The size of a maker of the wish over the book; InvalidPaper if it is none."""
    check_wish(book, wish)
    return len(spots_of(book, wish, thing))


def places_of(maker):
    """All places, ascending."""
    check_usable(is_maker(maker), "maker")
    for place, _ in placed_parts(maker):
        yield place


def part_at(maker, place):
    """The head and the makers at the place."""
    check_usable(is_maker(maker), "maker")
    part = part_found(maker, place)
    check_usable(part is not None, "place")
    return part


def maker_size(maker):
    """How many places there are."""
    check_usable(is_maker(maker), "maker")
    return len(placed_parts(maker))


def maker_levels(maker):
    """One more than the number of indexes of a longest place."""
    check_usable(is_maker(maker), "maker")
    return 1 + max([len(place) for place, _ in placed_parts(maker)])


def names_in(maker):
    """The set of the names that are heads."""
    check_usable(is_maker(maker), "maker")
    return tuple(sorted({part[0] for _, part in placed_parts(maker) if isinstance(part[0], str)}))


def uses_of(maker, name):
    """At how many places the name is the head."""
    check_usable(is_maker(maker), "maker")
    check_usable(is_name(name), "name")
    return len([place for place, part in placed_parts(maker) if part[0] == name])


def wanted_at(book, wish, maker, place):
    """The kinds of the variables at hand at the place, by their numbers, and the atom that is wanted there."""
    check_wish(book, wish)
    goal = goal_found(usable_spots(book, wish, maker, "maker"), place)
    check_usable(goal is not None, "place")
    return (goal[1], goal[2])
