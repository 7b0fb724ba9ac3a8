"""What is to be known of a wish over a book before any maker is made."""

from onlygiven.errors import NotMade
from onlygiven.kinds import is_book, is_kind
from onlygiven.kindsplits import end_in, kinds_inside, parts_in
from onlygiven.stands import head_sizes, least_sizes, stand_with, stands_below, steps_from
from onlygiven.usable import check_usable


class Outlook:
    """All stands to which a wish leads, their heads, and how great makers are at least.

    rows and ends are the parts and the ends of all kinds, hand and wanted those of the wish. steps has for each stand
    and each head the stands to which its parts lead. least has the least size of a maker for each stand that has one,
    and sizes, for each of these stands, the least size with each head that can be taken there.
    """

    def __init__(self, book, wish):
        given = [entry[1] for entry in book]
        kinds = kinds_inside(given + [wish])
        self.book = book
        self.rows = {kind: tuple(parts_in(kind)) for kind in kinds}
        self.ends = {kind: end_in(kind) for kind in kinds}
        self.hand = self.rows[wish]
        self.wanted = self.ends[wish]
        self.first = stand_with(self.hand, self.wanted)
        self.steps = steps_from(self.first, given, self.rows, self.ends)
        self.least = least_sizes(self.steps)
        self.sizes = {stand: head_sizes(self.steps[stand], self.least) for stand in self.least}

    def has_maker(self):
        """Whether the wish has a maker."""
        return self.first in self.least

    def made_steps(self):
        """For each stand of a maker of the wish, for each head that can be taken there, the stands behind it."""
        made = {}
        waiting = []
        if self.has_maker():
            waiting.append(self.first)
        while waiting:
            stand = waiting.pop()
            if stand not in made:
                heads = {kind: self.steps[stand][kind] for kind in self.sizes[stand]}
                waiting.extend(stands_below(heads))
                made[stand] = heads
        return made

    def shut_stands(self):
        """The set of the stands at which nothing can be made."""
        return tuple(sorted([stand for stand in self.steps if stand not in self.least]))


def check_wish(book, wish):
    """The parameters of all that is asked about a wish."""
    check_usable(is_book(book), "book")
    check_usable(is_kind(wish), "wish")


def outlook_for(book, wish):
    """The outlook of any two values, if they are a book and a wish."""
    check_wish(book, wish)
    return Outlook(book, wish)


def made_outlook(book, wish):
    """The outlook of a book and a wish that has a maker; NotMade if it has none."""
    outlook = Outlook(book, wish)
    if not outlook.has_maker():
        raise NotMade(wish)
    return outlook
