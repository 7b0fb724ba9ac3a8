"""The checker of terms."""

from onlygiven.errors import InvalidPaper, NotUsable
from onlygiven.kinds import has_term_form, inner_terms, is_book
from onlygiven.kindsplits import end_in, kind_with, parts_in
from onlygiven.termwalks import spots_down, spots_inside_out
from onlygiven.usable import check_usable


def check_names(spots):
    """All names mean something."""
    for place, term, kinds in spots:
        if isinstance(term, str) and term not in kinds:
            raise InvalidPaper("name", place)


def kind_of_call(place, kinds):
    """The kind of a call; kinds are those of its function and its terms."""
    parts = parts_in(kinds[0])
    if len(kinds) - 1 > len(parts):
        raise InvalidPaper("parts", place)
    for k, kind in enumerate(kinds[1:]):
        if kind != parts[k]:
            raise InvalidPaper("kind", place + (k + 1,))
    return kind_with(parts[len(kinds) - 1:], end_in(kinds[0]))


def kind_at(spot, kinds):
    """The kind of a term; kinds are those of the terms in it."""
    place, term, known = spot
    if isinstance(term, str):
        return known[term]
    if term[0] == "call":
        return kind_of_call(place, kinds)
    return kind_with([entry[1] for entry in term[1]] + parts_in(kinds[0]), end_in(kinds[0]))


def lets_term(book, thing):
    """The kind of a term that is right for the book; InvalidPaper if it is none."""
    check_usable(is_book(book), "book")
    check_names(spots_down(book, thing, has_term_form))
    kinds = []
    for spot in spots_inside_out(book, thing):
        # The kinds of the terms in this one stand at the end.
        start = len(kinds) - len(inner_terms(spot[1]))
        inner = kinds[start:]
        del kinds[start:]
        kinds.append(kind_at(spot, inner))
    return kinds[0]


def usable_kind(book, term, word):
    """The kind of an argument, which is to be a term that is right for the book."""
    try:
        return lets_term(book, term)
    except InvalidPaper:
        raise NotUsable(word, -1) from None


def kind_of(book, term):
    """The kind of a term that is right for the book."""
    return usable_kind(book, term, "term")
