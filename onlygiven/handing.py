"""Which sets of names let some wishes and bar others."""

from onlygiven.bookchanges import handed
from onlygiven.judging import smallest_maker
from onlygiven.kinds import is_book, is_kind
from onlygiven.nametables import enough_table, greatest_in, least_in, sets_in, used_names, whole_table, with_others
from onlygiven.naming import greatest_without, least_names
from onlygiven.outlooks import Outlook
from onlygiven.shuttables import shut_table
from onlygiven.usable import check_usable


def are_wishes(thing):
    return isinstance(thing, tuple) and all([is_kind(wish) for wish in thing])


def check_handout(book, let, barred):
    """The parameters of all that is asked about handouts."""
    check_usable(is_book(book), "book")
    check_usable(are_wishes(let), "let")
    check_usable(are_wishes(barred), "barred")


def handout_table(book, let, barred):
    """The names that are of use for some of the wishes, and the table of the handouts among their sets."""
    allowing = [Outlook(book, wish) for wish in let]
    barring = [Outlook(book, wish) for wish in barred]
    names = sorted(set([name for outlook in allowing + barring for name in used_names(outlook)]))
    table = whole_table(len(names))
    for outlook in allowing:
        table = table & enough_table(outlook, names)
    for outlook in barring:
        table = table & ~enough_table(outlook, names)
    return names, table


def greatest_handouts(book, let, barred):
    """The handouts that lie in no other one."""
    check_handout(book, let, barred)
    names, table = handout_table(book, let, barred)
    # A name that is of no use is in all of them.
    return with_others(book, names, sets_in(greatest_in(table, len(names)), names))


def least_handouts(book, let, barred):
    """The handouts that include no other one."""
    check_handout(book, let, barred)
    names, table = handout_table(book, let, barred)
    return sets_in(least_in(table, len(names)), names)


def poor_rows(book, let):
    """For each let wish the greatest sets that are not enough for it, each with a shut table."""
    return tuple([
        (names, k, shut_table(handed(book, names), wish))
        for k, wish in enumerate(let) for names in greatest_without(book, wish)
    ])


def rich_rows(book, barred):
    """For each barred wish the least sets that are enough for it, each with a maker."""
    return tuple([
        (names, k, smallest_maker(handed(book, names), wish))
        for k, wish in enumerate(barred) for names in least_names(book, wish)
    ])


def good_row(book, let, barred, names):
    """A handout with a maker of each let wish and a shut table of each barred one."""
    own = handed(book, names)
    makers = tuple([smallest_maker(own, wish) for wish in let])
    return (names, makers, tuple([shut_table(own, wish) for wish in barred]))


def handout_paper(book, let, barred):
    """A paper that shows which sets are handouts."""
    least = least_handouts(book, let, barred)
    sets = sorted(set(least + greatest_handouts(book, let, barred)))
    good = tuple([good_row(book, let, barred, names) for names in sets])
    return (poor_rows(book, let), rich_rows(book, barred), good)
