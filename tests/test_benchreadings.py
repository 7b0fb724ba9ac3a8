import unittest

from checks import Checks
from onlygiven.benchevents import is_event
from onlygiven.benchreadings import read_event, read_log
from onlygiven.errors import InvalidText, NotUsable
from oracles import bench_column, bench_in, changed_texts, event_column, event_in
from values import ANY_VALUES, NO_STRINGS

EVENT_LINES = (
    "name f: p -> q", "drop f", "kind abcdefgh: p", "let p -> q", "bar (p -> q) -> p", "free abcdefgh", "drop zzzzzzzz",
)
BENCH_LINES = (
    "bench -", "bench a: p", "bench a: p, f: p -> q", "bench ba: p, baa: (p -> q) -> p, bb: q",
    "bench z: p, zzzzzzzz: q",
)


class ReadingTest(Checks):
    def unread(self, line, column, function, /, *arguments):
        self.assert_raises(InvalidText, {"line": line, "column": column}, function, *arguments)


class EventTest(ReadingTest):
    def test_events(self):
        self.assert_is(read_event("name f: p -> q"), ("name", "f", "p -> q"))
        self.assert_is(read_event("drop f"), ("drop", "f"))
        self.assert_is(read_event("kind f: (p -> q) -> p"), ("kind", "f", "(p -> q) -> p"))
        self.assert_is(read_event("let p -> q"), ("let", "p -> q"))
        self.assert_is(read_event("bar p"), ("bar", "p"))
        self.assert_is(read_event(text="free (p -> q) -> p"), ("free", "(p -> q) -> p"))
        self.assert_is(read_event("name name: kind"), ("name", "name", "kind"))
        self.assert_is(read_event("drop let"), ("drop", "let"))

    def test_example(self):
        self.unread(0, 11, read_event, "let p -> (q)")

    def test_columns(self):
        for text, column in (
            ("", 0), ("n", 1), ("na", 2), ("nam", 3), ("name", 4), ("name ", 5), ("name f", 6), ("name f:", 7),
            ("name f: ", 8), ("x", 0), (" let p", 0), ("let  p", 4), ("letp", 3), ("let p ", 6), ("let p\n", 5),
            ("\nlet p", 0), ("let\np", 3), ("Let p", 0), ("drop f: p", 6), ("drop abcdefghi", 13), ("drop (", 5),
            ("drop p -> q", 6), ("name f p", 6), ("name f:p", 7), ("name f, p", 6), ("name: p", 4), ("nme f", 1),
            ("bench -", 1), ("bench a: p", 1), ("bad p", 2), ("kin", 3), ("kit", 2), ("fre p", 3), ("freed p", 4),
            ("let (p -> q)", 12), ("bar (p)", 6), ("free ", 5), ("let p, bar q", 5), ("let p / bar q", 6),
            ("undo", 0), ("let f: p", 5), ("name abcdefghi: p", 13), ("kind f: (p -> q)", 16), ("let 0", 4),
        ):
            with self.subTest(text=text):
                self.assertEqual(event_column(text), column)
                self.unread(0, column, read_event, text)

    def test_changed_texts(self):
        for whole in EVENT_LINES:
            for text in changed_texts(whole):
                event = event_in(text)
                if event is None:
                    self.unread(0, event_column(text), read_event, text)
                else:
                    self.assert_is(read_event(text), event)
                    self.assertTrue(is_event(read_event(text)))

    def test_not_usable(self):
        for thing in NO_STRINGS:
            self.assert_raises(NotUsable, {"word": "text", "at": -1}, read_event, thing)


class LogTest(ReadingTest):
    def test_logs(self):
        self.assert_is(read_log(["bench -"]), (("bench", ()),))
        self.assert_is(read_log(lines=["bench a: p"]), (("bench", (("a", "p"),)),))
        self.assert_is(read_log(["bench -", "let p", "let p", "drop f"]), (
            ("bench", ()), ("let", "p"), ("let", "p"), ("drop", "f")))

    def test_examples(self):
        self.assert_is(read_log(["bench b: p, f: p -> q", "drop b"]), (
            ("bench", (("b", "p"), ("f", "p -> q"))), ("drop", "b")))
        self.unread(0, 12, read_log, ["bench b: p, a: q"])

    def test_written_lines_of_the_document(self):
        lines = ["bench a: p, f: p -> q", "name f: p -> q", "drop f", "let p -> q"]
        self.assert_is(read_log(lines), (
            ("bench", (("a", "p"), ("f", "p -> q"))), ("name", "f", "p -> q"), ("drop", "f"), ("let", "p -> q")))

    def test_without_any_string(self):
        self.unread(0, 0, read_log, [])

    def test_columns_of_the_first_line(self):
        for text, column in (
            ("", 0), ("b", 1), ("bench", 5), ("bench ", 6), ("bench  -", 6), ("bench --", 7), ("bench - ", 7),
            ("bench -, a: p", 7), ("bench a: p, -", 12), ("bench -> p", 7), ("Bench -", 0), ("bar p", 1),
            ("let p", 0), ("bench a", 7), ("bench a:", 8), ("bench a: ", 9), ("bench a: p,", 11),
            ("bench a: p, ", 12), ("bench a: p,b: p", 11), ("bench a: p , b: p", 11), ("bench a: p -> q,", 16),
            ("bench a: (p, q", 11), ("bench a: (p -> q, ", 16), ("bench a: (p -> q), b: p", 17), ("bench a: p\n", 10),
            ("bench a: p; b: p", 10), ("bench a: p: q", 10), ("bench abcdefghi: p", 14),
            ("bench a: p, abcdefghi: p", 20), ("bench a: abcdefghi", 17), ("\nbench -", 0), ("bench -\n", 7),
        ):
            with self.subTest(text=text):
                self.assertEqual(bench_column(text), column)
                self.unread(0, column, read_log, [text])
                self.unread(0, column, read_log, [text, "", "nothing"])

    def test_names_that_begin_alike(self):
        for before, after, column in (
            ("b", "a: p", 0), ("b", "b: p", 1), ("ba", "b: p", 1), ("ba", "ba: p", 2), ("bb", "ba: p", 1),
            ("baaaaaaa", "ba: p", 2), ("baaaaaaa", "baaaaaaa: p", 7), ("bzzzzzzz", "b: p", 0), ("bzzzzzzz", "bz", 0),
            ("abyzzzzz", "abyzzzzz: p", 2), ("zzzzzzzy", "zzzzzzzy: p", 7), ("zzzzzzz", "zzzzzzz: p", 7), ("b", "b", 1),
        ):
            text = f"bench {before}: p, {after}"
            with self.subTest(text=text):
                column = len(f"bench {before}: p, ") + column
                self.assertEqual(bench_column(text), column)
                self.unread(0, column, read_log, [text])
        self.assert_is(read_log(["bench b: p, ba: p, bb: p"]), (("bench", (("b", "p"), ("ba", "p"), ("bb", "p"))),))

    def test_last_name_of_all(self):
        self.assert_is(read_log(["bench zzzzzzzz: p -> q"]), (("bench", (("zzzzzzzz", "p -> q"),)),))
        self.unread(0, 17, read_log, ["bench zzzzzzzz: p, zzzzzzzz: p"])
        self.unread(0, 17, read_log, ["bench zzzzzzzz: p,"])
        self.unread(0, 23, read_log, ["bench a: p, zzzzzzzz: q, b: p"])
        # Within the kind it can go on as before.
        self.unread(0, 18, read_log, ["bench zzzzzzzz: p "])

    def test_changed_first_line(self):
        for whole in BENCH_LINES:
            for text in changed_texts(whole):
                bench = bench_in(text)
                if bench is None:
                    self.unread(0, bench_column(text), read_log, [text, "let p"])
                else:
                    self.assert_is(read_log([text, "let p"]), (bench, ("let", "p")))

    def test_changed_later_lines(self):
        for whole in EVENT_LINES:
            for text in changed_texts(whole):
                event = event_in(text)
                if event is None:
                    self.unread(2, event_column(text), read_log, ["bench -", "let p", text, "x"])
                else:
                    self.assert_is(read_log(["bench -", text]), (("bench", ()), event))

    def test_first_line_that_is_wrong(self):
        self.unread(1, 0, read_log, ["bench -", ""])
        self.unread(1, 1, read_log, ["bench -", "bench -"])
        self.unread(2, 5, read_log, ["bench -", "drop f", "drop ", "drop"])
        self.unread(0, 0, read_log, ["drop f", "bench -"])

    def test_nothing_else_is_checked(self):
        log = read_log(["bench a: p", "drop b", "name a: p", "free q", "let p", "bar p"] + ["let p"] * 60)
        self.assertEqual(len(log), 66)

    def test_not_usable(self):
        for thing in ANY_VALUES:
            if not isinstance(thing, list):
                self.assert_raises(NotUsable, {"word": "lines", "at": -1}, read_log, thing)
        for thing in NO_STRINGS:
            for lines in ([thing], ["bench -", thing], ["wrong", thing], [thing, "wrong"]):
                self.assert_raises(NotUsable, {"word": "lines", "at": -1}, read_log, lines)
        self.assert_raises(NotUsable, {"word": "lines", "at": -1}, read_log, ("bench -",))
        self.assert_raises(NotUsable, {"word": "lines", "at": -1}, read_log, "bench -")

    def test_lines_are_not_changed(self):
        lines = ["bench a: p", "drop a"]
        read_log(lines)
        self.assertEqual(lines, ["bench a: p", "drop a"])


if __name__ == "__main__":
    unittest.main()
