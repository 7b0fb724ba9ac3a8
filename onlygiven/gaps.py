"""Terms with gaps, filled where the kind alone decides."""

from onlygiven.counting import number_of_all
from onlygiven.errors import InvalidPaper, NotOne, NotUsable
from onlygiven.gapwants import GAP, is_term_or_gap, wants_of
from onlygiven.goals import least_maker
from onlygiven.kinds import is_book, is_kind
from onlygiven.makerwalks import spots_of
from onlygiven.outlooks import Outlook
from onlygiven.termforms import written_term
from onlygiven.termwalks import built_up, spots_down
from onlygiven.usable import check_usable


def usable_term_spots(book, term):
    """The spots of an argument, which is to be a term by form, gaps aside."""
    try:
        return spots_down(book, term, is_term_or_gap)
    except InvalidPaper:
        raise NotUsable("term", -1) from None


def term_for_gap(place, kinds, kind):
    """A term for the only maker of the kind over the names that mean something at a gap."""
    book = tuple(sorted(list(kinds.items())))
    outlook = Outlook(book, kind)
    number = number_of_all(outlook)
    if number != 1:
        raise NotOne(place, number)
    return written_term(book, spots_of(book, kind, least_maker(outlook, {})))


def term_with(fillers, spot, inner):
    """The term of a spot with these terms in it, or what fills it if it is a gap."""
    place, term, _ = spot
    if isinstance(term, str):
        return term
    if term == GAP:
        return fillers[place]
    return ("fun", term[1], inner[0]) if term[0] == "fun" else ("call", inner[0], tuple(inner[1:]))


def filled_term(book, term, kind):
    """The term in which each gap is filled by the only maker that there is for it."""
    check_usable(is_book(book), "book")
    spots = usable_term_spots(book, term)
    check_usable(is_kind(kind), "kind")
    gaps = [(spot, want) for spot, want in zip(spots, wants_of(spots, kind)) if spot[1] == GAP]
    for spot, want in gaps:
        if not want:
            raise NotUsable("gap", spot[0])
    fillers = {place: term_for_gap(place, kinds, want) for (place, _, kinds), want in gaps}
    return built_up(spots, lambda spot, inner: term_with(fillers, spot, inner))[0]
