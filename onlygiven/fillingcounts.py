"""How many fillings there are of one book over another one."""

from onlygiven.counting import how_many
from onlygiven.fillings import Filling
from onlygiven.judging import can_make, smallest_maker
from onlygiven.kinds import is_book
from onlygiven.usable import check_usable


def check_low_high(low, high):
    check_usable(is_book(low), "low")
    check_usable(is_book(high), "high")


def check_high_low(high, low):
    check_usable(is_book(high), "high")
    check_usable(is_book(low), "low")


def lacking(high, low):
    """The list of the names of low whose kinds have no maker over high."""
    return [name for name, kind in low if not can_make(high, kind)]


def how_many_fillings(low, high):
    """How many fillings of low over high there are, None for endlessly many."""
    check_low_high(low, high)
    numbers = [how_many(high, kind) for _, kind in low]
    if 0 in numbers:
        return 0
    if None in numbers:
        return None
    product = 1
    for number in numbers:
        product = product * number
    return product


def filling_for(low, high):
    """A filling of low over high, None if there is none."""
    check_low_high(low, high)
    if lacking(high, low):
        return None
    return Filling(low, high, tuple([smallest_maker(high, kind) for _, kind in low]))


def gives_all(high, low):
    """Whether each wish that has a maker over low has one over high."""
    check_high_low(high, low)
    return not lacking(high, low)


def lacking_names(high, low):
    """The set of the names of low whose kinds have no maker over high."""
    check_high_low(high, low)
    return tuple(lacking(high, low))
