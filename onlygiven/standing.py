"""Stands, and where they lead."""

from onlygiven.kinds import is_book, is_kind, is_stand
from onlygiven.outlooks import outlook_for
from onlygiven.stands import heads_of_stand, stand_beyond, stand_of_wish
from onlygiven.usable import check_usable


def first_stand(wish):
    """The first stand of the wish."""
    check_usable(is_kind(wish), "wish")
    return stand_of_wish(wish)


def heads_at(book, stand):
    """The set of the heads of a stand."""
    check_usable(is_book(book), "book")
    check_usable(is_stand(stand), "stand")
    return tuple(heads_of_stand(book, stand))


def stand_behind(stand, part):
    """The stand to which a part leads."""
    check_usable(is_stand(stand), "stand")
    check_usable(is_kind(part), "part")
    return stand_beyond(stand, part)


def stands_from(book, wish):
    """The set of all stands to which the wish leads."""
    return tuple(sorted(outlook_for(book, wish).steps))


def makeable_stands(book, wish):
    """The set of those stands at which something can be made."""
    return tuple(sorted(outlook_for(book, wish).least))
