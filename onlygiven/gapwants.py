"""Where terms with gaps are wanted.

A want is the kind at which a term is wanted; or None, if it is not wanted; or NAMES_ALONE, if it is not even asked
whether it is right, except for its names.
"""

from onlygiven.errors import NotUsable
from onlygiven.kinds import has_term_form, inner_terms
from onlygiven.kindsplits import end_in, kind_with, parts_in
from onlygiven.termwalks import built_up

GAP = ("gap",)

NAMES_ALONE = ""


def is_term_or_gap(thing):
    return thing == GAP or has_term_form(thing)


def own_kind(spot, inner):
    """The kind that a term has if it is not wanted, None if it has none; inner are those of the terms in it."""
    _, term, kinds = spot
    if isinstance(term, str):
        return kinds[term]
    if term == GAP or inner[0] is None:
        return None
    parts = parts_in(inner[0])
    if term[0] == "fun":
        return kind_with([entry[1] for entry in term[1]] + parts, end_in(inner[0]))
    # With too many terms it is not right: what is asked then does not matter.
    return kind_with(parts[len(inner) - 1:], end_in(inner[0]))


def check_right(fits):
    if not fits:
        raise NotUsable("term", -1)


def wants_in_call(term, function):
    """The wants of the function of a call, which has this kind or None, and of the terms of the call."""
    given = term[2]
    if function is None:
        return [None] + [NAMES_ALONE for _ in given]
    parts = parts_in(function)
    check_right(len(given) <= len(parts))
    return [None] + parts[:len(given)]


def wants_in_fun(term, want):
    """The want of the term of a fun."""
    if want is None:
        return [None]
    parts = parts_in(want)
    kinds = [entry[1] for entry in term[1]]
    check_right(parts[:len(kinds)] == kinds)
    return [kind_with(parts[len(kinds):], end_in(want))]


def wants_in(term, want, kinds):
    """The wants of the terms in a term; kinds has its own kind, and then, if it is a call, that of its function."""
    if isinstance(term, str) or term == GAP:
        return []
    if want == NAMES_ALONE:
        return [NAMES_ALONE for _ in inner_terms(term)]
    return wants_in_call(term, kinds[1]) if term[0] == "call" else wants_in_fun(term, want)


def wants_of(spots, kind):
    """The wants of all spots, ascending by place, the whole being wanted at the kind; NotUsable if it is not right."""
    check_right(all([not isinstance(term, str) or term in known for _, term, known in spots]))
    kinds = built_up(spots, own_kind)
    waiting = [kind]
    wants = []
    for k, spot in enumerate(spots):
        want = waiting.pop()
        check_right(not want or kinds[k] is None or kinds[k] == want)
        wants.append(want)
        # The function of a call stands right behind it.
        behind = wants_in(spot[1], want, kinds[k:k + 2])
        waiting.extend(behind[::-1])
    return wants
