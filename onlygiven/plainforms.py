"""Plain forms of terms and calls."""

from onlygiven.errors import InvalidPaper, NotUsable
from onlygiven.kindsplits import end_in, kind_with, parts_in
from onlygiven.makertexts import maker_text
from onlygiven.makerwalks import spots_of, usable_spots
from onlygiven.normals import Made, form_of, plain_maker, value_of_term, values_of_names
from onlygiven.outlooks import check_wish
from onlygiven.termchecker import usable_kind
from onlygiven.usable import check_usable


def plain_term(book, term, kind):
    """The plain form of what is known to be a term of this kind."""
    return plain_maker(value_of_term(term, values_of_names(book)), kind)


def plain_of(book, term):
    """The maker to which the term is alike."""
    return plain_term(book, term, usable_kind(book, term, "term"))


def are_alike(book, term, other):
    """Whether two terms of one kind have the same value in every meaning."""
    kind = usable_kind(book, term, "term")
    check_usable(usable_kind(book, other, "other") == kind, "other")
    # Unlike makers have unlike texts; and texts are compared without calls in calls, makers may be of any depth.
    return maker_text(plain_term(book, term, kind)) == maker_text(plain_term(book, other, kind))


def spots_of_others(book, parts, others):
    """For each of the others, which are to be makers of the first parts, its spots."""
    rows = []
    for k, other in enumerate(others):
        if k >= len(parts):
            raise NotUsable("others", k)
        try:
            spots = spots_of(book, parts[k], other)
        except InvalidPaper:
            raise NotUsable("others", k) from None
        rows.append(spots)
    return rows


def applied(book, wish, maker, *others):
    """The plain form of the call of the maker with the others."""
    check_wish(book, wish)
    spots = usable_spots(book, wish, maker, "maker")
    parts = parts_in(wish)
    rows = spots_of_others(book, parts, others)
    names = values_of_names(book)
    given = [Made(form_of(row), names, []) for row in rows]
    kind = kind_with(parts[len(others):], end_in(wish))
    return plain_maker(Made(form_of(spots), names, []), kind, given)
