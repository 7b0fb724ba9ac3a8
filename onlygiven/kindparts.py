"""What a kind consists of."""

from onlygiven.kinds import is_kind, is_name
from onlygiven.kindsplits import ARROW, end_in, kind_with, kinds_inside, names_in_kind, parts_in
from onlygiven.usable import check_usable


def parts_of(kind):
    """The tuple of the parts."""
    check_usable(is_kind(kind), "kind")
    return tuple(parts_in(kind))


def end_of(kind):
    check_usable(is_kind(kind), "kind")
    return end_in(kind)


def atoms_of(kind):
    """The set of the atoms."""
    check_usable(is_kind(kind), "kind")
    return tuple(sorted(set(names_in_kind(kind))))


def size_of(kind):
    """How many atoms there are, repetitions counted."""
    check_usable(is_kind(kind), "kind")
    return len(names_in_kind(kind))


def order_of(kind):
    """0 of an atom, otherwise one more than the greatest order of the parts."""
    check_usable(is_kind(kind), "kind")
    if ARROW not in kind:
        return 0
    # Each part that has parts itself stands in parentheses: the order is one more than how deep these go.
    depth = 0
    deepest = 0
    for piece in kind.split(ARROW):
        depth = depth + piece.count("(")
        deepest = max(deepest, depth)
        depth = depth - piece.count(")")
    return deepest + 1


def kinds_within(kind):
    """The set of the kind itself, its parts, and what is within these."""
    check_usable(is_kind(kind), "kind")
    return tuple(sorted(kinds_inside([kind])))


def kind_from(parts, end):
    """The kind with these parts and this end."""
    check_usable(isinstance(parts, tuple) and all([is_kind(part) for part in parts]), "parts")
    check_usable(is_name(end), "end")
    return kind_with(list(parts), end)
