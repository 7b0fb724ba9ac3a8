"""Benches kept in another way than in the package: as a list of events, from which all is worked out each time."""

import re

from plainly import has_maker, number_of_makers
from values import is_plainly_a_book, is_plainly_a_kind, is_plainly_a_name

MOST = 40


def is_plain_event(thing):
    if not isinstance(thing, tuple) or not thing or not isinstance(thing[0], str):
        return False
    word, *rest = thing
    if word in ("name", "kind"):
        return len(rest) == 2 and is_plainly_a_name(rest[0]) and is_plainly_a_kind(rest[1])
    if word == "drop":
        return len(rest) == 1 and is_plainly_a_name(rest[0])
    return word in ("let", "bar", "free") and len(rest) == 1 and is_plainly_a_kind(rest[0])


def is_plain_log(thing):
    if not isinstance(thing, tuple) or not thing or not all(map(is_plain_event, thing[1:])):
        return False
    first = thing[0]
    return (isinstance(first, tuple) and len(first) == 2 and isinstance(first[0], str) and first[0] == "bench"
            and is_plainly_a_book(first[1]))


def verdict_of(book, wish):
    number = number_of_makers(book, wish)
    return "endless" if number is None else ("none", "one", "some")[min(number, 2)]


class PlainBench:
    def __init__(self, book):
        self.first, self.events, self.asked, self.failed = book, [], 0, 0

    def state(self, many=None):
        """The book and the two sets of wishes behind so many events."""
        book, let, barred = dict(self.first), set(), set()
        for word, *rest in self.events[:many]:
            if word in ("name", "kind"):
                book[rest[0]] = rest[1]
            elif word == "drop":
                del book[rest[0]]
            else:
                let.discard(rest[0])
                barred.discard(rest[0])
                if word != "free":
                    (let if word == "let" else barred).add(rest[0])
        return tuple(sorted(book.items())), tuple(sorted(let)), tuple(sorted(barred))

    def reason(self, event):
        """The first reason that applies, as the document lists them."""
        if not is_plain_event(event):
            return "shape"
        book, let, barred = self.state()
        word, thing = event[:2]
        own, others = (let, barred) if word == "let" else (barred, let)
        for reason, applies in (
            ("full", len(self.events) >= MOST),
            ("unknown", word in ("drop", "kind") and thing not in dict(book)),
            ("unknown", word == "free" and thing not in let + barred),
            ("known", word == "name" and thing in dict(book)),
            ("known", word in ("let", "bar") and thing in own),
            ("same", word == "kind" and event in [("kind", *entry) for entry in book]),
            ("both", word in ("let", "bar") and thing in others),
            ("many", word == "name" and len(book) >= 8),
            ("many", word in ("let", "bar") and len(own) >= 3),
        ):
            if applies:
                return reason
        return None

    def copy(self):
        other = PlainBench(self.first)
        other.events = list(self.events)
        return other

    def verdicts(self, many=None):
        book, let, barred = self.state(many)
        return tuple((wish, verdict_of(book, wish)) for wish in sorted(let + barred))

    def changes(self, k):
        before, after = self.state(k)[0], self.state(k + 1)[0]
        wishes = [wish for wish, _ in self.verdicts(k)]
        rows = [(wish, verdict_of(before, wish), verdict_of(after, wish)) for wish in wishes]
        return tuple(row for row in rows if row[1] != row[2])

    def alarms(self):
        """The wishes alone."""
        book, let, barred = self.state()
        return sorted([wish for wish in let if not has_maker(book, wish)] + [wish for wish in barred if has_maker(book, wish)])

    def log(self):
        return (("bench", self.first), *self.events)


# Lines.

def line_of(event):
    """The line of an event, put together sign by sign."""
    word, *rest = event
    return word + " " + (rest[0] + ": " + rest[1] if len(rest) == 2 else rest[0])


def event_of_line(line):
    """The event that a line writes, by the words of the document alone."""
    match = re.fullmatch("(name|kind) ([a-z]{1,8}): (.*)", line)
    if match:
        return match.groups()
    return tuple(line.split(" ", 1))
