import random
import unittest

from benchly import MOST, PlainBench, is_plain_log
from books import LIST, PAIR, SAFE
from checks import Checks
from onlygiven.benches import Bench
from onlygiven.benchlogs import is_log, replayed
from onlygiven.bookclasses import Book
from onlygiven.errors import InvalidEvent
from test_benches import ODD_EVENTS, follow, random_event
from values import ANY_VALUES, NO_BOOKS

LOGS = [(("bench", book),) + tuple(random_event(random.Random(seed + 100 * k), 0) for k in range(seed % 7))
        for seed in range(80) for book in (PAIR, SAFE, (), LIST)[seed % 4:seed % 4 + 1]]

NO_LOGS = [thing for thing in ANY_VALUES if not is_plain_log(thing)] + [
    (("bench", book),) for book in NO_BOOKS] + [(("bench", ()), event) for event in ODD_EVENTS] + [
    (("bench", PAIR), ("let", "p"), event) for event in ODD_EVENTS] + [
    [("bench", ())], (["bench", ()],), (("bench",),), (("bench", (), ()),), (("bank", ()),), (("let", "p"),), ("bench", ()),
    (("bench", ()), ("bench", ())), ((["bench"], ()),), ((True, ()),), (("let", "p"), ("bench", ())), ((None, ()),),
]


class BenchLogsTest(Checks):
    def test_is_log(self):
        for log in LOGS:
            self.assert_gives(True, is_log, thing=log)
        for thing in NO_LOGS:
            self.assert_gives(False, is_log, thing=thing)
        for thing in (Book(), Bench(), (Bench(),), (("bench", Book()),), (("bench", ()), Bench()), (("bench", ()), ("let", Book()))):
            self.assertIs(is_log(thing), False)

    def test_any_value(self):
        for thing in ANY_VALUES + NO_LOGS + LOGS:
            self.assert_is(is_log(thing), is_plain_log(thing))
            self.assert_is(is_log((("bench", ()), thing)), is_plain_log((("bench", ()), thing)))

    def test_refused_events_are_in_logs(self):
        log = (("bench", PAIR), ("drop", "zz"), ("let", "p"), ("let", "p"), ("kind", "a", "p"))
        self.assert_is(is_log(log), True)
        self.assert_is(is_log((("bench", ()), *[("let", "p")] * 100)), True)

    def test_replayed(self):
        met = {True: 0, False: 0}
        for log in LOGS:
            (_, book), *events = log
            model, refused = follow(PlainBench(book), events)
            met[bool(refused)] += 1
            if refused:
                fields = {"event": refused[0], "reason": model.reason(refused[0])}
                self.assert_raises(InvalidEvent, fields, replayed, log)
                self.assert_raises(InvalidEvent, fields, replayed, log=log)
                continue
            for bench in (replayed(log), replayed(log=log)):
                self.assertIs(type(bench), Bench)
                self.assert_is(bench.log(), log)
                self.assert_is([bench.book_now, bench.let_now, bench.barred_now], list(model.state()))
                self.assert_is(bench.tally(), (0, 0))
        self.assertGreater(min(met.values()), 20)

    def test_logs_of_benches(self):
        for seed in range(40):
            rng = random.Random(seed)
            bench = Bench(PAIR)
            for _ in range(20):
                event = random_event(rng)
                if bench.barred_by(event) is None:
                    bench.go(event)
                if rng.random() < 0.2 and len(bench.log()) > 1:
                    bench.undo()
            again = replayed(bench.log())
            self.assertIs(again == bench, True)
            self.assertIs(is_log(bench.log()), True)
            # They are two benches.
            again.do_all((("name", "zzz", "p"),)) if "zzz" not in again and len(again) < 8 else None
            self.assert_is(replayed(bench.log()).log(), bench.log())

    def test_replayed_goes_on(self):
        bench = replayed((("bench", LIST), ("let", "s")))
        self.assert_is([bench.let_wish("p"), bench.undo(), bench.undo(), bench.tally()], [None, ("let", "p"), ("let", "s"), (3, 0)])

    def test_full(self):
        log = (("bench", ()),) + (("let", "p"), ("free", "p")) * (MOST // 2)
        self.assert_is(replayed(log).log(), log)
        self.assert_raises(InvalidEvent, {"event": ("let", "p"), "reason": "full"}, replayed, (*log, ("let", "p")))

    def test_not_usable(self):
        self.check_parameters(replayed, {"log": (("bench", ()),)}, {"log": NO_LOGS})


if __name__ == "__main__":
    unittest.main()
