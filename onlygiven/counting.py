"""How many makers a wish has."""

from onlygiven.goals import least_maker
from onlygiven.kinds import is_number
from onlygiven.outlooks import Outlook, check_wish, outlook_for
from onlygiven.repeats import Repeats
from onlygiven.sizecounts import SizeCounts, copies_of, state_with
from onlygiven.stands import stand_with
from onlygiven.usable import check_usable


def count_state(outlook, state, counted):
    """How many makers a state has. This and all states below it are written down, those below first.

    Only for a wish that has not endlessly many: then no atom is wanted below itself, so this goes no deeper than
    there are atoms.
    """
    if state not in counted:
        hand, atom = state
        total = 0
        for kind in outlook.sizes[stand_with(hand, atom)]:
            number = copies_of(outlook, hand, kind)
            for part in outlook.rows[kind]:
                below = state_with(hand + outlook.rows[part], outlook.ends[part])
                number = number * count_state(outlook, below, counted)
            total = total + number
        counted[state] = total
    return counted[state]


def greatest_size(outlook, stand, known):
    """The size of a greatest maker at a stand. Only for a wish that has not endlessly many."""
    if stand not in known:
        steps = outlook.steps[stand]
        known[stand] = max([
            1 + sum([greatest_size(outlook, below, known) for below in steps[kind]]) for kind in outlook.sizes[stand]
        ])
    return known[stand]


def counted_states(outlook):
    """For each state that a maker of the wish can have how many makers it has, the state of the wish last."""
    counted = {}
    count_state(outlook, state_with(outlook.hand, outlook.wanted), counted)
    return counted


def number_of_all(outlook):
    """How many makers there are, None for endlessly many."""
    if not outlook.has_maker():
        return 0
    if Repeats(outlook).are_there():
        return None
    return list(counted_states(outlook).values())[-1]


def how_many(book, wish):
    """How many makers the wish has, None if endlessly many."""
    return number_of_all(outlook_for(book, wish))


def how_many_of(book, wish, size):
    """How many makers of the wish have this size."""
    check_wish(book, wish)
    check_usable(is_number(size), "size")
    outlook = Outlook(book, wish)
    if not outlook.has_maker() or size < outlook.least[outlook.first]:
        return 0
    if not Repeats(outlook).are_there() and size > greatest_size(outlook, outlook.first, {}):
        return 0
    return SizeCounts(outlook, size).count_of(size)


def just_paper(outlook):
    """The count paper of a wish that has not endlessly many makers."""
    shut = outlook.shut_stands()
    if not outlook.has_maker():
        return ("just", 0, (), shut)
    rows = tuple(counted_states(outlook).items())
    return ("just", rows[-1][1], rows, shut)


def count_paper(book, wish):
    """A paper that shows how many makers the wish has."""
    outlook = outlook_for(book, wish)
    repeats = Repeats(outlook)
    if not repeats.are_there():
        return just_paper(outlook)
    chosen, place, deeper = repeats.found()
    return ("endless", least_maker(outlook, chosen), place, deeper)
