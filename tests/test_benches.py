import inspect
import random
import unittest

from benchly import MOST, PlainBench
from books import LIST, PAIR, SAFE
from checks import Checks
from onlygiven.benches import Bench
from onlygiven.benchlogs import replayed
from onlygiven.bookclasses import Book
from onlygiven.errors import Broken, InvalidEvent, NothingToUndo
from onlygiven.handing import greatest_handouts
from onlygiven.judging import smallest_maker
from values import ANY_VALUES, NO_BOOKS, NO_KINDS, NO_NUMBERS

# Names and wishes may be equal.
NAMES = ("a", "b", "c", "d", "e", "f", "g", "h", "ab", "zz", "p", "q")
KINDS = ("p", "q", "p -> q", "q -> p", "p -> p -> q", "(p -> q) -> p", "(q -> p) -> q", "r", "q -> r")
WISHES = ("p", "q", "r", "p -> q", "q -> q", "(p -> q) -> q", "p -> p -> p", "(p -> p) -> p -> p")

ODD_EVENTS = [
    ("name", "a"), ("name", "a", "p", "q"), ("name", "A", "p"), ("name", "a", "(p)"), ("drop",), ("drop", "a", "p"), ("drop", "A"),
    ("kind", "a"), ("kind", "abcdefghi", "p"), ("let", "p", "q"), ("let",), ("let", "(p)"), ("bar", ""), ("free", None),
    ("free", ("p",)), ["let", "p"], ("LET", "p"), ("bench", ()), ("undo",), (), None, "let p", ("let", ["p"]), (["let"], "p"),
    (True, "p"), ("let", True), (("let", "p"),), ("tally",), ("all", "p"),
]

MORE_OF_EACH_EVENT = [("name", "z", "p"), ("drop", "a"), ("kind", "a", "r"), ("let", "z"), ("bar", "z"), ("free", "p")]


def random_event(rng, odd=0.05):
    if rng.random() < odd:
        return rng.choice(ODD_EVENTS)
    word = rng.choice(("name", "name", "name", "drop", "kind", "let", "let", "bar", "bar", "free"))
    if word in ("name", "kind"):
        return word, rng.choice(NAMES), rng.choice(KINDS)
    return word, rng.choice(NAMES if word == "drop" else WISHES)


class BenchChecks(Checks):
    def shows(self, bench, model, rng=None):
        """All that can be asked, against what is worked out from the events, and what the functions tell of the book."""
        book, let, barred = model.state()
        wishes = sorted(let + barred)
        for _ in range(2):
            self.assert_is([bench.book_now, bench.let_now, bench.barred_now], [book, let, barred])
            self.assert_is([len(bench), list(bench), bench.tally()], [len(book), [name for name, _ in book], (model.asked, model.failed)])
            self.assert_is(bench.log(), model.log())
        for name in NAMES:
            self.assertIs(name in bench, name in dict(book))
            if name in dict(book):
                self.assert_is(bench[name], dict(book)[name])
        verdicts = model.verdicts()
        self.assert_is(bench.verdicts_now(), verdicts)
        for wish, verdict in verdicts:
            self.assert_is(bench.verdict_now(wish), verdict)
        alarms = list(bench.alarms())
        self.assert_is(alarms, [(wish, smallest_maker(book, wish)) for wish in model.alarms()])
        self.assert_is(bench.table(), [
            ("let    " if wish in let else "barred ") + verdict + " " * (7 - len(verdict)) + " " + wish
            for wish, verdict in verdicts])
        cures = bench.cures()
        self.assert_is(cures, greatest_handouts(book, let, barred))
        self.assertIs(not alarms, cures == (tuple(name for name, _ in book),))
        self.assertEqual([wish for wish, _ in verdicts], wishes)
        if rng:
            self.more(bench, model, rng)

    def more(self, bench, model, rng):
        """What there is too much of to ask for all of it."""
        for k in {len(model.events) - 1, rng.randrange(len(model.events) + 1)}:
            if 0 <= k < len(model.events):
                changes = model.changes(k)
                self.assert_is(bench.changes(k), changes)
                self.assert_is(bench.changes(k=k), changes)
        for event in [random_event(rng, 0.3) for _ in range(6)]:
            reason = model.reason(event)
            self.assert_is([bench.barred_by(event), bench.barred_by(event=event)], [reason, reason])
        events = tuple(random_event(rng, 0.02) for _ in range(rng.choice((0, 1, 1, 2, 4))))
        self.tried(bench, model, events)
        again = replayed(bench.log())
        self.assertIs(again == bench, True)
        self.assert_is(again.tally(), (0, 0))

    def tried(self, bench, model, events):
        other, refused = follow(model, events)
        if not refused:
            self.assert_is(bench.tried(events), (other.state()[0], other.verdicts()))
            self.assert_is(bench.tried(events=events), bench.tried(events))
        else:
            fields = {"event": refused[0], "reason": other.reason(refused[0])}
            self.assert_raises(InvalidEvent, fields, bench.tried, events)
            self.assert_raises(InvalidEvent, fields, bench.tried, events=events)

    def apply(self, bench, model, event, way):
        """Applies an event, in one of the ways there are, on the bench and the model."""
        reason = model.reason(event)
        model.asked += 1
        call = way_to(bench, event, way)
        if reason is None:
            self.assertIsNone(call())
            model.events.append(event)
        else:
            model.failed += 1
            self.assert_raises(InvalidEvent, {"event": event, "reason": reason}, call)

    def undo(self, bench, model):
        model.asked += 1
        if model.events:
            self.assert_is(bench.undo(), model.events.pop())
        else:
            model.failed += 1
            self.assert_raises(NothingToUndo, {"steps": 0}, bench.undo)

    def do_all(self, bench, model, events, keep):
        model.asked += 1
        other, refused = follow(model, events)
        named = {"events": events} if keep is None else {"events": events, "keep": keep}
        if not refused:
            self.assert_is(bench.do_all(**named), len(events))
            model.events = other.events
            return
        model.failed += 1
        done = len(other.events) - len(model.events)
        with self.assertRaises(Broken) as caught:
            bench.do_all(**named)
        self.assert_is(vars(caught.exception), {"done": done})
        self.assertIs(type(caught.exception), Broken)
        cause = caught.exception.__cause__
        self.assertIs(type(cause), InvalidEvent)
        self.assert_is(vars(cause), {"event": refused[0], "reason": other.reason(refused[0])})
        self.assertIs(cause.event, refused[0])
        if keep:
            model.events = other.events


def follow(model, events):
    """The model behind the events up to the first one that is refused, and a tuple of this one, if there is one."""
    other = model.copy()
    for event in events:
        if other.reason(event) is not None:
            return other, (event,)
        other.events.append(event)
    return other, ()


METHODS = {"name": "add_name", "drop": "drop_name", "kind": "set_kind", "let": "let_wish", "bar": "bar_wish", "free": "free_wish"}
PARAMETERS = {"name": ("name", "kind"), "drop": ("name",), "kind": ("name", "kind")}


def way_to(bench, event, way):
    """A function that applies the event."""
    names = PARAMETERS.get(event[0], ("wish",)) if isinstance(event, tuple) and event and isinstance(event[0], str) else ()
    if way > 1 and len(event or ()) == len(names) + 1 and event[0] in METHODS:
        method = getattr(bench, METHODS[event[0]])
        if way == 2:
            return lambda: method(*event[1:])
        if way == 3:
            return lambda: method(**dict(zip(names, event[1:])))
        if event[0] in ("name", "kind") and event[0] == ("kind" if event[1] in bench else "name"):
            return lambda: bench.__setitem__(event[1], event[2])
    return (lambda: bench.go(event)) if way else (lambda: bench.go(event=event))


class BenchTest(BenchChecks):
    def test_examples(self):
        bench = Bench((("key", "s"), ("look", "s -> q"), ("open", "s -> p")))
        self.assert_is(
            [bench.let_wish("q"), bench.bar_wish("p"), bench.verdicts_now(), list(bench.alarms()), bench.cures()],
            [None, None, (("p", "one"), ("q", "one")), [("p", ("open", (("key", ()),)))], (("key", "look"),)])
        self.assert_is(
            [bench.drop_name("open"), bench.changes(2), list(bench.alarms()), bench.cures(), bench["look"], len(bench)],
            [None, (("p", "one", "none"),), [], (("key", "look"),), "s -> q", 2])
        bench = Bench(LIST)
        self.assert_is(bench.do_all((("let", "s"), ("name", "x", "p"))), 2)
        self.assert_is(
            [bench.tried((("drop", "nil"),))[1], bench.changes(1), bench.barred_by(("bar", "s")), bench.undo()],
            [(("s", "none"),), (("s", "one", "endless"),), "both", ("name", "x", "p")])

    def test_new(self):
        self.assert_is(Bench.MOST, 40)
        for bench, book in ((Bench(), ()), (Bench(PAIR), PAIR), (Bench(book=SAFE), SAFE)):
            self.shows(bench, PlainBench(book), random.Random(1))
        for thing in NO_BOOKS + [Book(PAIR), Bench(PAIR)]:
            self.assert_unusable("book", -1, Bench, thing)
            self.assert_unusable("book", -1, Bench, book=thing)

    def test_events_at_random(self):
        met = set()
        for seed in range(40):
            rng = random.Random(seed)
            book = rng.choice((PAIR, SAFE, (), LIST, tuple((name, "p") for name in "abcdefg")))
            bench, model = Bench(book), PlainBench(book)
            for _ in range(40):
                event = random_event(rng)
                met.add(model.reason(event))
                self.apply(bench, model, event, rng.randrange(5))
                if rng.random() < 0.15:
                    self.undo(bench, model)
                if rng.random() < 0.4:
                    self.shows(bench, model, rng)
            self.shows(bench, model, rng)
        self.assertEqual(met, {None, "shape", "unknown", "known", "same", "both", "many"})

    def test_all_of_several_at_random(self):
        ends = set()
        for seed in range(60):
            rng = random.Random(690 + seed)
            bench, model = Bench(PAIR), PlainBench(PAIR)
            for _ in range(6):
                events = tuple(random_event(rng, 0.01) for _ in range(rng.choice((0, 1, 2, 3, 6))))
                keep = rng.choice((None, True, False))
                before = len(model.events), model.failed
                self.do_all(bench, model, events, keep)
                ends.add((keep, model.failed > before[1], len(model.events) > before[0]))
                self.assert_is([bench.book_now, bench.tally()], [model.state()[0], (model.asked, model.failed)])
            self.undo(bench, model)
            self.shows(bench, model, rng)
        self.assertLess({(True, True, True), (False, True, False), (None, True, False), (True, False, True)}, ends)

    def test_full(self):
        bench, model = Bench(PAIR), PlainBench(PAIR)
        for k in range(MOST):
            self.apply(bench, model, ("free", "p") if k % 2 else ("let", "p"), k % 4)
        self.shows(bench, model, random.Random(2))
        # Whatever else is wrong, this comes first; only the shape comes before it.
        for event in MORE_OF_EACH_EVENT + [("let", "p"), ("free", "p"), ("name", "a", "p"), ("drop", "zz"), ("kind", "a", "p")]:
            self.assertEqual(model.reason(event), "full")
            self.apply(bench, model, event, 1)
            self.assert_is(bench.barred_by(event), "full")
            self.assert_raises(InvalidEvent, {"event": event, "reason": "full"}, bench.tried, (event,))
            self.do_all(bench, model, (event,), True)
        for event in ODD_EVENTS:
            self.assert_is(bench.barred_by(event), "shape")
        self.undo(bench, model)
        self.assertIsNone(bench.barred_by(("free", "p")))
        self.do_all(bench, model, (("free", "p"), ("let", "p")), True)
        self.assertEqual(len(model.events), MOST)
        self.undo(bench, model)
        self.do_all(bench, model, (("free", "p"), ("let", "p")), False)
        self.assertEqual(len(model.events), MOST - 1)
        self.shows(bench, model)

    def test_reasons_written_out(self):
        eight = tuple((name, "p") for name in "abcdefgh")
        bench = Bench(eight)
        for wish in ("p", "q", "r"):
            bench.let_wish(wish)
        for wish in ("s", "t", "u"):
            bench.bar_wish(wish)
        for event, reason in (
            (("name", "a", "q"), "known"), (("name", "z", "q"), "many"), (("drop", "z"), "unknown"), (("kind", "z", "p"), "unknown"),
            (("kind", "a", "p"), "same"), (("kind", "a", "q"), None), (("drop", "a"), None), (("let", "p"), "known"),
            (("let", "s"), "both"), (("let", "v"), "many"), (("bar", "s"), "known"), (("bar", "p"), "both"), (("bar", "v"), "many"),
            (("free", "v"), "unknown"), (("free", "p"), None), (("free", "s"), None), (("name", "a", "(p)"), "shape"),
        ):
            with self.subTest(event=event):
                self.assert_is(bench.barred_by(event), reason)
                if reason is not None:
                    self.assert_raises(InvalidEvent, {"event": event, "reason": reason}, bench.go, event)

    def test_any_value_as_an_event(self):
        bench, model = Bench(PAIR), PlainBench(PAIR)
        for thing in ANY_VALUES + ODD_EVENTS + [Book(), Bench(), ("let", Book())]:
            reason = model.reason(thing) if not isinstance(thing, (Book, Bench)) else "shape"
            self.assert_is(bench.barred_by(thing), reason)
            if reason is not None:
                with self.assertRaises(InvalidEvent) as caught:
                    bench.go(thing)
                self.assertIs(caught.exception.event, thing)
                self.assert_is(caught.exception.reason, reason)

    def test_any_values_in_the_methods(self):
        """All errors are those of events."""
        bench, model = Bench(PAIR), PlainBench(PAIR)
        for thing in ANY_VALUES:
            for event in (("name", thing, "p"), ("name", "c", thing), ("drop", thing), ("kind", thing, "q"), ("kind", "a", thing),
                          ("let", thing), ("bar", thing), ("free", thing), ("name", thing, thing)):
                if model.reason(event) is not None:
                    for way in (2, 3):
                        self.apply(bench, model, event, way)
        self.shows(bench, model)

    def test_items_set(self):
        bench, model = Bench(PAIR), PlainBench(PAIR)
        bench["c"] = "p -> q"
        bench["a"] = "q"
        model.asked, model.events = 2, [("name", "c", "p -> q"), ("kind", "a", "q")]
        self.shows(bench, model)
        for name, kind, event, reason in (
            ("a", "q", ("kind", "a", "q"), "same"), ("a", "(q)", ("kind", "a", "(q)"), "shape"), ("A", "q", ("name", "A", "q"), "shape"),
            (["a"], "q", ("name", ["a"], "q"), "shape"), ("d", None, ("name", "d", None), "shape"), (True, "p", ("name", True, "p"), "shape"),
        ):
            self.assert_raises(InvalidEvent, {"event": event, "reason": reason}, bench.__setitem__, name, kind)
        model.asked, model.failed = 8, 6
        self.shows(bench, model)

    def test_items_asked(self):
        bench = Bench(PAIR)
        for thing in ANY_VALUES + [Book(), bench, "c", "p", "A", 0, slice(0, 1)]:
            self.assertIs(thing in bench, False)
            self.assert_unusable("name", -1, lambda: bench[thing])
        self.assert_is(bench.tally(), (0, 0))

    def test_equal(self):
        benches = [Bench(), Bench(PAIR), Bench(PAIR), Bench(PAIR[:2]), Bench(PAIR[:2])]
        benches[4].add_name("f", "p -> p -> q")
        for bench in benches[2:3]:
            bench.let_wish("p")
        for j, one in enumerate(benches):
            for k, other in enumerate(benches):
                self.assertIs(one == other, j == k)
                self.assertIs(one != other, j != k)
        benches[2].undo()
        self.assertIs(benches[2] == benches[1], True)
        for thing in ANY_VALUES + [Book(PAIR), PAIR, benches[1].log(), NotImplemented]:
            self.assertIs(benches[1] == thing, False)
            self.assertIs(thing == benches[1], False)
        # The same events in another order make another log.
        one, other = Bench(), Bench()
        one.do_all((("let", "p"), ("bar", "q")))
        other.do_all((("bar", "q"), ("let", "p")))
        self.assertIs(one == other, False)

    def test_alarms_are_a_generator(self):
        bench = Bench(PAIR)
        bench.do_all((("let", "r"), ("bar", "q"), ("bar", "p")))
        self.assertTrue(inspect.isgenerator(bench.alarms()))
        alarms = bench.alarms()
        self.assert_is([next(alarms), next(alarms), next(alarms), next(alarms, None)], [
            ("p", ("a", ())), ("q", ("f", (("a", ()), ("a", ())))), ("r", None), None])

    def test_tables_written_out(self):
        bench = Bench(LIST)
        bench.do_all((("bar", "p -> s"), ("let", "s"), ("let", "p"), ("bar", "s -> s")))
        self.assert_is(bench.table(), [
            "let    none    p", "barred endless p -> s", "let    one     s", "barred some    s -> s"])
        self.assert_is(Bench(LIST).table(), [])

    def test_verdicts_go_one_way(self):
        order = ("none", "one", "some", "endless")
        seen = {"name": 0, "drop": 0}
        for seed in range(60):
            rng = random.Random(seed)
            bench = Bench(PAIR)
            for wish in ("q", "r", "p -> q"):
                bench.let_wish(wish)
            for _ in range(25):
                event = random_event(rng, 0)
                if event[0] in ("name", "drop", "kind") and bench.barred_by(event) is None:
                    bench.go(event)
                    for _, before, after in bench.changes(len(bench.log()) - 2):
                        if event[0] in seen:
                            self.assertIs(order.index(before) < order.index(after), event[0] == "name")
                            seen[event[0]] += 1
        self.assertGreater(min(seen.values()), 20)

    def test_undo_to_the_beginning(self):
        bench, model = Bench(PAIR), PlainBench(PAIR)
        rng = random.Random(3)
        for _ in range(25):
            self.apply(bench, model, random_event(rng), 1)
        while model.events:
            self.undo(bench, model)
            self.assert_is(bench.log(), model.log())
        self.undo(bench, model)
        self.shows(bench, model)
        self.assertIs(bench == Bench(PAIR), True)

    def test_not_usable(self):
        bench = Bench(PAIR)
        bench.let_wish("p")
        self.check_parameters(bench.verdict_now, {"wish": "p"}, {"wish": NO_KINDS})
        self.check_parameters(bench.changes, {"k": 0}, {"k": NO_NUMBERS + [1, 2, 10 ** 60 - 1]})
        no_tuples = [thing for thing in ANY_VALUES if not isinstance(thing, tuple)]
        self.check_parameters(bench.tried, {"events": ()}, {"events": no_tuples})
        self.assert_is(bench.tally(), (1, 0))
        no_bools = [thing for thing in ANY_VALUES if not isinstance(thing, bool)]
        for k, thing in enumerate(no_tuples):
            self.assert_unusable("events", -1, bench.do_all, thing)
            self.assert_unusable("events", -1, bench.do_all, events=thing, keep=no_bools[k % len(no_bools)])
        for thing in no_bools:
            self.assert_unusable("keep", -1, bench.do_all, (), keep=thing)
            self.assert_unusable("keep", -1, bench.do_all, (("let", "q"),), keep=thing)
            self.assert_unusable("keep", -1, bench.do_all, (None,), keep=thing)
        many = 2 * len(no_tuples) + 3 * len(no_bools)
        self.assert_is(bench.tally(), (1 + many, many))
        with self.assertRaises(TypeError):
            bench.do_all((), True)
        for name in ("book_now", "let_now", "barred_now"):
            with self.assertRaises(AttributeError):
                setattr(bench, name, ())


class BlockTest(BenchChecks):
    def test_block_that_ends_well(self):
        bench, model = Bench(PAIR), PlainBench(PAIR)
        with bench as same:
            self.assertIs(same, bench)
            self.apply(same, model, ("let", "p"), 1)
        self.shows(bench, model)

    def test_block_that_ends_with_an_error(self):
        bench, model = Bench(PAIR), PlainBench(PAIR)
        self.apply(bench, model, ("let", "p"), 1)
        error = KeyError("x")
        with self.assertRaises(KeyError) as caught:
            with bench:
                bench.undo()
                bench.add_name("c", "r")
                bench.let_wish("r")
                raise error
        self.assertIs(caught.exception, error)
        model.asked += 3
        self.shows(bench, model)
        self.assert_raises(InvalidEvent, {"event": ("let", "p"), "reason": "known"}, self.refused_within, bench)
        model.asked, model.failed = model.asked + 2, model.failed + 1
        self.shows(bench, model)

    def refused_within(self, bench):
        with bench:
            bench.bar_wish("q")
            bench.let_wish("p")

    def test_left_early(self):
        """A return, a break and a continue are no errors."""
        bench = Bench(PAIR)

        def leave():
            with bench:
                bench.let_wish("p")
                return 7

        self.assertEqual(leave(), 7)
        for wish in ("q", "r"):
            with bench:
                bench.bar_wish(wish)
                continue
        self.assert_is([bench.let_now, bench.barred_now], [("p",), ("q", "r")])

    def test_nested(self):
        bench = Bench()
        with bench:
            bench.let_wish("p")
            try:
                with bench:
                    bench.let_wish("q")
                    with bench:
                        bench.let_wish("r")
                    self.assert_is(bench.let_now, ("p", "q", "r"))
                    raise ValueError
            except ValueError:
                self.assert_is(bench.let_now, ("p",))
            bench.bar_wish("s")
        self.assert_is([bench.let_now, bench.barred_now, bench.tally()], [("p",), ("s",), (4, 0)])
        with self.assertRaises(ValueError):
            with bench:
                bench.bar_wish("t")
                with bench:
                    bench.bar_wish("u")
                raise ValueError
        self.assert_is([bench.let_now, bench.barred_now, bench.tally()], [("p",), ("s",), (6, 0)])

    def test_at_random(self):
        """Blocks within blocks, of which some end with an error that goes on for some blocks."""
        for seed in range(40):
            rng = random.Random(7000 + seed)
            bench, model = Bench(SAFE), PlainBench(SAFE)
            for _ in range(3):
                try:
                    self.block(bench, model, rng, 0)
                except Stop:
                    pass
                self.assert_is([bench.log(), bench.tally()], [model.log(), (model.asked, model.failed)])
            self.shows(bench, model, rng)

    def block(self, bench, model, rng, depth):
        kept = list(model.events)
        try:
            with bench as same:
                self.assertIs(same, bench)
                for _ in range(rng.randint(1, 4)):
                    self.step(bench, model, rng, depth)
                if rng.random() < 0.4:
                    raise Stop
        except Stop:
            model.events = kept
            self.assert_is(bench.log(), model.log())
            if rng.random() < 0.5:
                raise

    def step(self, bench, model, rng, depth):
        chance = rng.random()
        if chance < 0.25 and depth < 3:
            self.block(bench, model, rng, depth + 1)
        elif chance < 0.4:
            self.undo(bench, model)
        elif chance < 0.55:
            events = tuple(random_event(rng) for _ in range(3))
            self.do_all(bench, model, events, rng.choice((True, False)))
        else:
            self.apply(bench, model, random_event(rng), rng.randrange(5))
        self.assert_is(bench.log(), model.log())


class Stop(Exception):
    """Ends a block."""


if __name__ == "__main__":
    unittest.main()
