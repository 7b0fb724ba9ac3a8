"""Desks kept in another way than in the package: rows are told apart by regular expressions, and answered by a bench."""

import re

from benchly import line_of
from onlygiven.benches import Bench
from onlygiven.errors import InvalidRow
from oracles import NAME, NUMBER, bench_in, event_in, is_kind_text

SINGLE = ("undo", "events", "log", "names", "lets", "bars", "table", "verdicts", "alarms", "cures")


def text_of(maker):
    head, makers = maker
    return f"{head}({', '.join(map(text_of, makers))})" if makers else f"{head}"


def told_by(row):
    """The word of a row and what it tells, None if the row is not possible."""
    if not isinstance(row, str):
        return None
    if row in SINGLE:
        return row, None
    if event_in(row) is not None:
        return "event", event_in(row)
    if bench_in(row) is not None:
        return "bench", bench_in(row)[1]
    word, space, rest = row.partition(" ")
    if word == "of" and re.fullmatch(NAME, rest):
        return word, rest
    if word == "verdict" and is_kind_text(rest):
        return word, rest
    if word == "changes" and re.fullmatch(NUMBER, rest):
        return word, int(rest)
    if word == "against" and event_in(rest) is not None:
        return word, event_in(rest)
    if word in ("all", "tried") and space:
        events = [event_in(line) for line in rest.split(" / ")]
        return None if None in events else (word, tuple(events))
    return None


def joined(things):
    return " / ".join(things) or "-"


class PlainDesk:
    def __init__(self, book):
        self.bench, self.asked, self.failed = Bench(book), 0, 0

    def answers(self):
        bench = self.bench
        return {
            "events": lambda _: str(len(bench.log()[1:])), "log": lambda _: joined(map(line_of, bench.log()[1:])),
            "names": lambda _: ", ".join(f"{name}: {bench[name]}" for name in bench) or "-",
            "lets": lambda _: joined(bench.let_now), "bars": lambda _: joined(bench.barred_now),
            "table": lambda _: joined(bench.table()), "undo": lambda _: line_of(bench.undo()),
            "verdicts": lambda _: joined(f"{wish}: {bench.verdict_now(wish)}" for wish in sorted(bench.let_now + bench.barred_now)),
            "alarms": lambda _: joined(
                wish if wish in bench.let_now else f"{wish} by {text_of(maker)}" for wish, maker in bench.alarms()),
            "cures": lambda _: " ".join(f"({' '.join(names)})" for names in bench.cures()) or "-",
            "of": lambda name: bench[name], "verdict": bench.verdict_now, "against": lambda event: bench.barred_by(event) or "-",
            "changes": lambda k: joined(f"{wish}: {before} to {after}" for wish, before, after in bench.changes(k)),
            "all": lambda events: str(bench.do_all(events)), "event": lambda event: "ok" if bench.go(event) is None else None,
            "tried": lambda events: joined(f"{wish}: {verdict}" for wish, verdict in bench.tried(events)[1]),
        }

    def say(self, row):
        """The answer, or else the error that is due."""
        self.asked += 1
        told = told_by(row)
        try:
            if told is None:
                raise InvalidRow(row)
            word, thing = told
            if word == "bench":
                self.bench = Bench(thing)
                return "ok"
            return self.answers()[word](thing)
        except ValueError as error:
            self.failed += 1
            return error

    def tally(self):
        return self.asked, self.failed
