import unittest

from onlygiven.benchevents import is_event
from onlygiven.kinds import is_kind, is_name
from values import ANY_VALUES

EVENTS = (
    ("name", "f", "p -> q"), ("name", "abcdefgh", "p"), ("name", "name", "kind"), ("kind", "f", "(p -> q) -> p"),
    ("drop", "f"), ("drop", "drop"), ("let", "p"), ("let", "p -> q"), ("bar", "(p -> q) -> p"), ("free", "p"),
)

NO_EVENTS = (
    (), ("name",), ("drop",), ("let",), ("bar",), ("free",), ("kind",), ("name", "f"), ("kind", "f"),
    ("name", "p -> q", "f"), ("name", "p -> q"), ("drop", "f", "p"), ("let", "p", "p"), ("free", "p", None),
    ("name", "f", "p", "p"), ("drop", "p -> q"), ("drop", "abcdefghi"), ("drop", ""), ("let", "(p)"), ("let", ""),
    ("bar", "abcdefghi"), ("free", "p ->"), ("kind", "f", "(p)"), ("kind", "F", "p"), ("name", "f", "p\n"),
    ("Name", "f", "p"), ("put", "f"), ("", "f"), ("name f", "p"), ("bench", ()), ("bench", "p"), ("f", "p"),
    ("gap",), (None, "f"), (True, "f"), (1, "f"), (["drop"], "f"), (("drop",), "f"), ([], "f"), ((), "f"),
    ["drop", "f"], ["let", "p"], ["name", "f", "p"], ("drop", ["f"]), ("drop", ("f",)), ("let", ("p",)),
    ("drop", None), ("drop", 0), ("let", True), ("name", "f", None), ("name", None, "p"), (("let", "p"),),
    "drop f", "drop", "let p", None, True, 0,
)


class EventsTest(unittest.TestCase):
    def test_events(self):
        for event in EVENTS:
            self.assertIs(is_event(event), True, event)
            self.assertIs(is_event(list(event)), False, event)
            self.assertIs(is_event(event + ("p",)), False, event)
            self.assertIs(is_event(event[:-1]), False, event)
            self.assertIs(is_event((event,)), False, event)
        self.assertIs(is_event(thing=EVENTS[0]), True)

    def test_other_values(self):
        for thing in NO_EVENTS:
            self.assertIs(is_event(thing), False, thing)

    def test_any_value(self):
        events = (("drop", "f"), ("name", "f", "p"), ("let", "p"))
        for thing in ANY_VALUES:
            self.assertIs(is_event(thing), thing in events, thing)

    def test_any_value_as_an_element(self):
        for thing in ANY_VALUES:
            self.assertIs(is_event((thing, "f")), False)
            self.assertIs(is_event(("drop", thing)), is_name(thing))
            self.assertIs(is_event(("name", thing, "p")), is_name(thing))
            for word in ("let", "bar", "free"):
                self.assertIs(is_event((word, thing)), is_kind(thing))
            for word in ("name", "kind"):
                self.assertIs(is_event((word, "f", thing)), is_kind(thing))


if __name__ == "__main__":
    unittest.main()
