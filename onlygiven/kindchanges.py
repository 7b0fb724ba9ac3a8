"""Kinds with something else in them."""

from onlygiven.kinds import is_kind, is_name, is_number
from onlygiven.kindsplits import ARROW, end_in, kind_with, part_in_row, parts_in
from onlygiven.usable import check_usable


def instance_in(kind, atom, other):
    """The instance of a kind; all three are known to be right."""
    pieces = kind.split(ARROW)
    changed = []
    for k, piece in enumerate(pieces):
        if piece.strip("()") != atom:
            changed.append(piece)
        elif piece.endswith(")") or k == len(pieces) - 1:
            # Here the atom is an end: the parts of the other kind join those ahead of it.
            changed.append(piece.replace(atom, other))
        else:
            changed.append(piece.replace(atom, part_in_row(other)))
    return ARROW.join(changed)


def instance_of(kind, atom, other):
    """The kind in which each atom of this name is replaced by another kind."""
    check_usable(is_kind(kind), "kind")
    check_usable(is_name(atom), "atom")
    check_usable(is_kind(other), "other")
    return instance_in(kind, atom, other)


def with_part(kind, part, *, at=0):
    """The kind with one more part, ahead of the one with this index or behind all of them."""
    check_usable(is_kind(kind), "kind")
    check_usable(is_kind(part), "part")
    parts = parts_in(kind)
    check_usable(is_number(at) and at <= len(parts), "at")
    return kind_with(parts[:at] + [part] + parts[at:], end_in(kind))


def without_part(kind, k):
    """The kind without the part with this index."""
    check_usable(is_kind(kind), "kind")
    parts = parts_in(kind)
    check_usable(is_number(k) and k < len(parts), "k")
    return kind_with(parts[:k] + parts[k + 1:], end_in(kind))
