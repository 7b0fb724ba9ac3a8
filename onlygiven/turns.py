"""What a bench is from one event to the next one. A turn never changes: so it can be taken back, or kept."""

from onlygiven.benchevents import is_event
from onlygiven.bookchanges import with_kind, with_name, without_name
from onlygiven.errors import InvalidEvent
from onlygiven.kinds import names_of

MOST_NAMES = 8
MOST_WISHES = 3


class Turn:
    """A bench behind an event: the event, the turn before it, and the book and the sets of wishes as they are then."""

    def __init__(self, event, before, book, let, barred):
        self.event = event
        self.before = before
        self.book = book
        self.names = tuple(names_of(book))
        self.let = let
        self.barred = barred
        # How many events led to it.
        self.many = before.many + 1 if before is not None else 0

    def wishes(self):
        """The let and the barred wishes, ascending."""
        return sorted(self.let + self.barred)


def first_turn(book):
    return Turn(None, None, book, (), ())


def book_reason(turn, event):
    """The reason why an event is refused that would change the book, None if there is none."""
    word = event[0]
    name = event[1]
    kinds = dict(turn.book)
    if word == "name":
        if name in kinds:
            return "known"
        return "many" if len(kinds) >= MOST_NAMES else None
    if name not in kinds:
        return "unknown"
    return "same" if word == "kind" and kinds[name] == event[2] else None


def wish_reason(turn, event):
    """The reason why an event is refused that would let, bar or free a wish, None if there is none."""
    word, wish = event
    if word == "free":
        return None if wish in turn.wishes() else "unknown"
    own, others = (turn.let, turn.barred) if word == "let" else (turn.barred, turn.let)
    if wish in own:
        return "known"
    if wish in others:
        return "both"
    return "many" if len(own) >= MOST_WISHES else None


def reason_against(turn, event, most):
    """The first reason why any value is refused as an event, None if there is none; most is how many there may be."""
    if not is_event(event):
        return "shape"
    if turn.many >= most:
        return "full"
    return book_reason(turn, event) if event[0] in ("name", "drop", "kind") else wish_reason(turn, event)


def book_behind(book, event):
    """The book behind an event that is not refused."""
    word = event[0]
    if word == "name":
        return with_name(book, event[1], event[2])
    if word == "drop":
        return without_name(book, event[1])
    return with_kind(book, event[1], event[2]) if word == "kind" else book


def wishes_behind(wishes, event, word):
    """The wishes that are let, or barred, behind an event; word is that of the events that do so."""
    if event[0] == word:
        return tuple(sorted([*wishes, event[1]]))
    if event[0] == "free":
        return tuple([wish for wish in wishes if wish != event[1]])
    return wishes


def turn_behind(turn, event, most):
    """The turn behind any value as an event; InvalidEvent if it is refused."""
    reason = reason_against(turn, event, most)
    if reason is not None:
        raise InvalidEvent(event, reason)
    let = wishes_behind(turn.let, event, "let")
    barred = wishes_behind(turn.barred, event, "bar")
    return Turn(event, turn, book_behind(turn.book, event), let, barred)


def turns_to(turn):
    """The list of the turns behind the events that led to this one."""
    turns = []
    while turn.before is not None:
        turns.append(turn)
        turn = turn.before
    return turns[::-1]


def book_at_first(turn):
    """The book of the beginning."""
    while turn.before is not None:
        turn = turn.before
    return turn.book
