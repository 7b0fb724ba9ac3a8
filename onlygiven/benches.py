"""A bench, on which names come and go, and wishes are let and barred."""

from onlygiven.bookchanges import has_name
from onlygiven.errors import Broken, InvalidEvent, NothingToUndo
from onlygiven.handing import greatest_handouts
from onlygiven.judging import smallest_maker
from onlygiven.kinds import is_book, is_kind, is_number
from onlygiven.turns import book_at_first, first_turn, reason_against, turn_behind, turns_to
from onlygiven.usable import check_usable
from onlygiven.verdicts import verdict_changes, verdict_on, verdicts_on


class Mark:
    """The turn of a bench at the beginning of a block, and the mark of the block around it."""

    def __init__(self, turn, outer):
        self.turn = turn
        self.outer = outer


class Bench:
    """A book and the wishes that are let and barred; all three change by events.

    What a bench is stands in a turn, which is never changed, only replaced.
    """

    MOST = 40

    def __init__(self, book=()):
        check_usable(is_book(book), "book")
        self._now = first_turn(book)
        # How many operations there were, and how many of them raised an error.
        self._begun = 0
        self._failed = 0
        # The mark of the innermost block.
        self._mark = None

    @property
    def book_now(self):
        return self._now.book

    @property
    def let_now(self):
        return self._now.let

    @property
    def barred_now(self):
        return self._now.barred

    def follow(self, event):
        """Applies an event that is not counted as an operation."""
        self._now = turn_behind(self._now, event, Bench.MOST)

    def begin(self):
        """Counts an operation, as one that raises an error as long as it has not come to its end."""
        self._begun = self._begun + 1
        self._failed = self._failed + 1

    def succeed(self):
        """The operation that began last has come to its end."""
        self._failed = self._failed - 1

    def go(self, event):
        """Applies an event."""
        self.begin()
        self.follow(event)
        self.succeed()

    def add_name(self, name, kind):
        self.go(("name", name, kind))

    def drop_name(self, name):
        self.go(("drop", name))

    def set_kind(self, name, kind):
        self.go(("kind", name, kind))

    def let_wish(self, wish):
        self.go(("let", wish))

    def bar_wish(self, wish):
        self.go(("bar", wish))

    def free_wish(self, wish):
        self.go(("free", wish))

    def __setitem__(self, at, worth):
        """Sets the kind of a name, which comes into the book if it is not there."""
        self.go(("kind" if at in self else "name", at, worth))

    def __getitem__(self, at):
        """The kind of a name."""
        check_usable(has_name(self._now.book, at), "name")
        return dict(self._now.book)[at]

    def __contains__(self, x):
        return has_name(self._now.book, x)

    def __len__(self):
        return len(self._now.names)

    def __iter__(self):
        return iter(self._now.names)

    def __eq__(self, other):
        return isinstance(other, Bench) and self.log() == other.log()

    def verdict_now(self, wish):
        """The verdict on a wish."""
        check_usable(is_kind(wish), "wish")
        return verdict_on(self._now.book, wish)

    def verdicts_now(self):
        """The pairs of a wish and the verdict on it, for all let and barred wishes."""
        return verdicts_on(self._now.book, self._now.wishes())

    def alarms(self):
        """The let wishes that have no maker, and the barred ones that have one, each with its least maker."""
        turn = self._now
        for wish in turn.wishes():
            maker = smallest_maker(turn.book, wish)
            if (wish in turn.let) == (maker is None):
                yield (wish, maker)

    def changes(self, k):
        """What event k did: the wishes on which the verdict changed, with the verdicts before and after it."""
        check_usable(is_number(k) and k < self._now.many, "k")
        turn = turns_to(self._now)[k]
        return verdict_changes(turn.before.wishes(), turn.before.book, turn.book)

    def cures(self):
        """The greatest handouts."""
        return greatest_handouts(self._now.book, self._now.let, self._now.barred)

    def barred_by(self, event):
        """The reason why any value would be refused as an event, None if it would not."""
        return reason_against(self._now, event, Bench.MOST)

    def tried(self, events):
        """The book and the verdicts as they would be after these events."""
        check_usable(isinstance(events, tuple), "events")
        turn = self._now
        for event in events:
            turn = turn_behind(turn, event, Bench.MOST)
        return (turn.book, verdicts_on(turn.book, turn.wishes()))

    def undo(self):
        """Takes back the last event, and returns it."""
        self.begin()
        if self._now.before is None:
            raise NothingToUndo(0)
        event = self._now.event
        self._now = self._now.before
        self.succeed()
        return event

    def do_all(self, events, *, keep=False):
        """Applies events in order, and returns how many there are; if one is refused, those before it only if kept."""
        self.begin()
        check_usable(isinstance(events, tuple), "events")
        check_usable(isinstance(keep, bool), "keep")
        turn = self._now
        for done, event in enumerate(events):
            try:
                turn = turn_behind(turn, event, Bench.MOST)
            except InvalidEvent as error:
                if keep:
                    self._now = turn
                raise Broken(done) from error
        self._now = turn
        self.succeed()
        return len(events)

    def __enter__(self):
        self._mark = Mark(self._now, self._mark)
        return self

    def __exit__(self, kind, value, trace):
        if kind is not None:
            self._now = self._mark.turn
        self._mark = self._mark.outer

    def tally(self):
        """How many operations there were, and how many of them raised an error."""
        return (self._begun, self._failed)

    def table(self):
        """The list of the rows of all let and barred wishes."""
        let = self._now.let
        rows = [("let" if wish in let else "barred", verdict, wish) for wish, verdict in self.verdicts_now()]
        return [f"{word:<6} {verdict:<7} {wish}" for word, verdict, wish in rows]

    def log(self):
        """The book of the beginning, and the events that were applied and not taken back."""
        events = [turn.event for turn in turns_to(self._now)]
        return (("bench", book_at_first(self._now)), *events)
