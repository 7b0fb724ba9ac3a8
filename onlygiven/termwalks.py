"""Terms gone through. No calls in calls: terms may be of any depth.

A spot is a tuple (place, term, kinds): kinds has the kind of each name that means something there. The function of a
call and the term of a fun have the index 0 in their places, term k of a call the index k + 1.
"""

from onlygiven.kinds import has_fun_form, inner_terms


def first_spot(book, term):
    return ((), term, dict(book))


def spots_in(spot):
    """The spots of the terms in a term, ascending."""
    place, term, kinds = spot
    if has_fun_form(term):
        # A variable hides what is called so around it.
        kinds = dict(list(kinds.items()) + list(term[1]))
    return [(place + (k,), inner, kinds) for k, inner in enumerate(inner_terms(term))]


def spots_inside_out(book, term):
    """The list of all spots, each behind those in it, otherwise ascending by place."""
    waiting = [first_spot(book, term)]
    spots = []
    while waiting:
        spot = waiting.pop()
        spots.append(spot)
        waiting.extend(spots_in(spot))
    return spots[::-1]
