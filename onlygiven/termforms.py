"""Makers written out as terms."""

from onlygiven.makerwalks import hands_around, usable_spots
from onlygiven.outlooks import check_wish
from onlygiven.scanning import LETTERS


def longer_names(names):
    """All names with one letter more."""
    return [name + letter for name in names for letter in LETTERS]


def names_besides(book, many):
    """So many names, all different, that the book does not have."""
    known = dict(book)
    found = []
    names = [""]
    while len(found) < many:
        names = longer_names(names)
        found.extend([name for name in names if name not in known])
    return found[:many]


def written_term(book, spots):
    """The term that the maker of these spots writes out."""
    names = names_besides(book, max([len(goal[1]) for goal, _ in spots]))
    terms = []
    for spot, around in list(zip(spots, hands_around(spots)))[::-1]:
        goal, (head, makers) = spot
        hand = goal[1]
        # The terms of the makers of this one stand at the end, in reverse.
        start = len(terms) - len(makers)
        behind = tuple(terms[start:][::-1])
        del terms[start:]
        term = head if isinstance(head, str) else names[head]
        if behind:
            term = ("call", term, behind)
        if len(hand) > around:
            term = ("fun", tuple([(names[k], hand[k]) for k in range(around, len(hand))]), term)
        terms.append(term)
    return terms[0]


def term_of(book, wish, maker):
    """A term of the wish whose plain form is the maker."""
    check_wish(book, wish)
    return written_term(book, usable_spots(book, wish, maker, "maker"))
