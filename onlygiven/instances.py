"""Makers in which an atom is replaced by a kind everywhere."""

from onlygiven.bookchanges import instance_book
from onlygiven.kindchanges import instance_in
from onlygiven.makerwalks import usable_spots
from onlygiven.normals import Made, form_of, plain_maker, values_of_names
from onlygiven.outlooks import check_wish


def instance_maker(book, wish, maker, atom, other):
    """The plain form of what the maker writes out with the instances of all kinds."""
    check_wish(book, wish)
    spots = usable_spots(book, wish, maker, "maker")
    # Atom and other are checked with the book.
    names = values_of_names(instance_book(book, atom, other))
    return plain_maker(Made(form_of(spots), names, []), instance_in(wish, atom, other))
