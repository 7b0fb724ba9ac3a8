"""The order of the makers of a wish, and their numbers."""

from onlygiven.counting import number_of_all
from onlygiven.kinds import is_number
from onlygiven.makerwalks import sizes_of, usable_spots
from onlygiven.outlooks import Outlook, check_wish, outlook_for
from onlygiven.sizecounts import SizeCounts
from onlygiven.sizeranks import maker_of_share, share_of
from onlygiven.usable import check_usable


def has_more_than(outlook, k):
    """Whether there are more than k makers."""
    number = number_of_all(outlook)
    return number is None or k < number


def maker_at(book, wish, k):
    """Maker number k of the wish."""
    check_wish(book, wish)
    outlook = Outlook(book, wish)
    check_usable(is_number(k) and has_more_than(outlook, k), "k")
    size = outlook.least[outlook.first]
    counts = SizeCounts(outlook, size)
    # The lesser sizes are counted on their own: how great the size has to be is not known before.
    while k >= counts.count_of(size):
        k = k - counts.count_of(size)
        size = size + 1
        counts = SizeCounts(outlook, size)
    return maker_of_share(outlook, counts, (size, k))


def number_of(book, wish, maker):
    """The number of a maker of the wish."""
    check_wish(book, wish)
    spots = usable_spots(book, wish, maker, "maker")
    outlook = Outlook(book, wish)
    counts = SizeCounts(outlook, len(spots))
    size, k = share_of(outlook, counts, spots)
    return sum([counts.count_of(less) for less in range(size)], start=k)


def makers_of(book, wish):
    """All makers of the wish in their order, without end if there are endlessly many."""
    outlook = outlook_for(book, wish)
    left = number_of_all(outlook)
    size = outlook.least.get(outlook.first, 0)
    while left is None or left > 0:
        counts = SizeCounts(outlook, size)
        many = counts.count_of(size)
        for k in range(many):
            yield maker_of_share(outlook, counts, (size, k))
        if left is not None:
            left = left - many
        size = size + 1


def order_key(spots):
    """What Python sorts as the makers are ordered.

    Equal sizes and heads so far mean that the next elements stand for the same place.
    """
    return [
        (size, 0, part[0], 0) if isinstance(part[0], str) else (size, 1, "", part[0])
        for size, (_, part) in zip(sizes_of(spots), spots)
    ]


def is_lesser(book, wish, maker, other):
    """Whether the one maker of the wish is lesser than the other one."""
    check_wish(book, wish)
    spots = usable_spots(book, wish, maker, "maker")
    others = usable_spots(book, wish, other, "other")
    return order_key(spots) < order_key(others)
