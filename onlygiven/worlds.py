"""Worlds in which all names of a book can be, and a wish cannot."""

from onlygiven.errors import InvalidPaper, NotUsable
from onlygiven.kinds import is_kind, is_number
from onlygiven.kindsplits import names_in_kind
from onlygiven.outlooks import outlook_for
from onlygiven.usable import check_usable
from onlygiven.worldrows import check_world, holds


def hands_of(outlook, stands):
    """The sets of kinds of these stands, each once, that of the first stand of the wish ahead."""
    first = outlook.first[0]
    return [first] + [hand for hand in sorted(set([stand[0] for stand in stands])) if hand != first]


def lies_in(hand, other):
    return all([kind in other for kind in hand])


def row_for(hand, hands, stands, atoms):
    """The row of a set of kinds: above it are those with more kinds, and it lacks what cannot be made there."""
    above = [k for k, other in enumerate(hands) if lies_in(hand, other)]
    wanted = [atom for kinds, atom in stands if lies_in(hand, kinds)]
    return (tuple([atom for atom in atoms if atom not in wanted]), tuple(above))


def world_of(book, wish):
    """A world that bars the wish, None if it has a maker.

    Its rows are the sets of kinds at the stands at which nothing can be made: there all these kinds hold, and those of
    the book, and the atom that is wanted is not there.
    """
    outlook = outlook_for(book, wish)
    if outlook.has_maker():
        return None
    stands = outlook.shut_stands()
    hands = hands_of(outlook, stands)
    atoms = sorted(set([atom for kind in outlook.rows for atom in names_in_kind(kind)]))
    return tuple([row_for(hand, hands, stands, atoms) for hand in hands])


def check_usable_world(world):
    try:
        check_world(world)
    except InvalidPaper:
        raise NotUsable("world", -1) from None


def holds_at(world, row, kind):
    """Whether the kind holds at the row with this number."""
    check_usable_world(world)
    check_usable(is_number(row) and row < len(world), "row")
    check_usable(is_kind(kind), "kind")
    return holds(world, row, kind)
