import unittest

from benchly import event_of_line, is_plain_event, line_of
from books import LIST, PAIR
from checks import Checks
from onlygiven.benchreadings import read_event, read_log
from onlygiven.benchtexts import event_line, log_lines
from onlygiven.bookclasses import Book
from test_benches import ODD_EVENTS
from test_benchlogs import LOGS, NO_LOGS
from values import ANY_VALUES

EVENTS = sorted({event for log in LOGS for event in log[1:]})


class BenchTextsTest(Checks):
    def test_example(self):
        log = (("bench", (("a", "p"), ("f", "p -> q"))), ("name", "f", "p -> q"), ("drop", "f"), ("let", "p -> q"))
        self.assert_gives(["bench a: p, f: p -> q", "name f: p -> q", "drop f", "let p -> q"], log_lines, log=log)

    def test_written_out(self):
        for event, line in (
            (("name", "f", "p -> q"), "name f: p -> q"), (("drop", "f"), "drop f"), (("kind", "abcdefgh", "(p -> q) -> r"),
                                                                                    "kind abcdefgh: (p -> q) -> r"),
            (("let", "p -> q"), "let p -> q"), (("bar", "p"), "bar p"), (("free", "(p -> q) -> p"), "free (p -> q) -> p"),
        ):
            self.assert_gives(line, event_line, event=event)
            self.assert_is(read_event(line), event)

    def test_logs_written_out(self):
        for log, lines in (
            ((("bench", ()),), ["bench -"]), ((("bench", LIST),), ["bench cons: p -> s -> s, nil: s"]),
            ((("bench", PAIR), ("drop", "a"), ("bar", "q")), ["bench a: p, b: p, f: p -> p -> q", "drop a", "bar q"]),
        ):
            self.assert_gives(lines, log_lines, log=log)
            self.assert_is(read_log(lines), log)

    def test_events_there_and_back(self):
        self.assertGreater(len(EVENTS), 60)
        for event in EVENTS:
            self.assert_gives(line_of(event), event_line, event=event)
            self.assert_is(read_event(event_line(event)), event)
            self.assert_is(event_of_line(event_line(event)), event)

    def test_logs_there_and_back(self):
        for log in LOGS:
            (_, book), *events = log
            entries = ", ".join(f"{name}: {kind}" for name, kind in book) or "-"
            self.assert_gives(["bench " + entries, *map(line_of, events)], log_lines, log=log)
            self.assert_is(read_log(log_lines(log)), log)

    def test_not_usable(self):
        no_events = [thing for thing in ANY_VALUES + ODD_EVENTS if not is_plain_event(thing)] + [(("bench", ()),), ("bench", PAIR)]
        self.check_parameters(event_line, {"event": ("let", "p")}, {"event": no_events})
        self.check_parameters(log_lines, {"log": (("bench", ()),)}, {"log": NO_LOGS})
        self.assert_unusable("event", -1, event_line, ("let", Book()))


if __name__ == "__main__":
    unittest.main()
