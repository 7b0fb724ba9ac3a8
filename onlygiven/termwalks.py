"""Terms gone through. No calls in calls: terms may be of any depth.

A spot is a tuple (place, term, kinds): kinds has the kind of each name that means something there. The function of a
call and the term of a fun have the index 0 in their places, term k of a call the index k + 1.
"""

from onlygiven.errors import InvalidPaper
from onlygiven.kinds import has_fun_form, inner_terms


def first_spot(book, term):
    return ((), term, dict(book))


def spots_in(spot):
    """The spots of the terms in a term, ascending."""
    place, term, kinds = spot
    if has_fun_form(term):
        # A variable hides what is called so around it.
        kinds = dict(list(kinds.items()) + list(term[1]))
    return [(place + (k,), inner, kinds) for k, inner in enumerate(inner_terms(term))]


def spots_inside_out(book, term):
    """The list of all spots, each behind those in it, otherwise ascending by place."""
    waiting = [first_spot(book, term)]
    spots = []
    while waiting:
        spot = waiting.pop()
        spots.append(spot)
        waiting.extend(spots_in(spot))
    return spots[::-1]


def spots_down(book, term, fits):
    """The list of all spots, ascending by place; InvalidPaper for the first one whose term does not fit."""
    waiting = [first_spot(book, term)]
    spots = []
    while waiting:
        spot = waiting.pop()
        if not fits(spot[1]):
            raise InvalidPaper("shape", spot[0])
        spots.append(spot)
        waiting.extend(spots_in(spot)[::-1])
    return spots


def built_up(spots, value_at):
    """For each spot what value_at makes of it and of what it made of the terms in it; spots ascend by place."""
    found = []
    values = []
    for spot in spots[::-1]:
        # What was made of the terms in this one stands at the end, in reverse.
        start = len(values) - len(inner_terms(spot[1]))
        inner = values[start:][::-1]
        del values[start:]
        value = value_at(spot, inner)
        values.append(value)
        found.append(value)
    return found[::-1]
