import inspect
import random
import unittest

from benchly import line_of
from books import LIST, PAIR, SAFE
from checks import Checks
from deskly import PlainDesk, told_by
from onlygiven.bookclasses import Book
from onlygiven.desks import Desk
from onlygiven.errors import Broken, InvalidEvent, InvalidRow, NothingToUndo, NotUsable
from oracles import changed_texts
from plainly import random_book
from test_benches import NAMES, WISHES, random_event
from values import ANY_VALUES, NO_BOOKS

ODD_ROWS = [
    "", " ", "-", "\n", "undo ", " undo", "Undo", "undo undo", "events 0", "log ", "names\n", "lets p", "verdict", "verdicts p", "of", "of ",
    "of A", "of a b", "of abcdefghi", "of p -> q", "verdict ", "verdict (p)", "verdict p -> (q)", "changes", "changes ", "changes 01",
    "changes -1", "changes +1", "changes 0.5", "changes 00", "changes " + "9" * 61, "changes p", "against", "against ", "against undo",
    "against let p / bar q", "against name a", "all", "all ", "all undo", "all let p /", "all let p / ", "all let p/bar q",
    "all let p  / bar q", "all / let p", "all let p / undo", "tried", "tried ", "tried let p / zz", "bench", "bench ", "bench - ",
    "bench b: p, a: q", "bench a", "bench a: p,b: q", "bench a: p, a: p", "bench a: (p)", "let", "let (p)", "name a", "name A: p",
    "drop", "drop A", "kind a p", "free", "tally", "cure", "alarms p", "table ", "let p\n", "let p -> q ", "say let p", "undone",
]


def random_row(rng):
    line = lambda: line_of(random_event(rng, 0))
    lines = lambda: " / ".join(line() for _ in range(rng.choice((1, 1, 2, 3))))
    book = lambda: ", ".join(f"{name}: {kind}" for name, kind in random_book(rng, 4, 3, ("p", "q"), 2)) or "-"
    return rng.choice([
        *[line] * 12, lambda: "undo", lambda: "undo", lambda: "all " + lines(), lambda: "all " + lines(), lambda: "tried " + lines(),
        lambda: "against " + line(), lambda: "of " + rng.choice(NAMES), lambda: "verdict " + rng.choice(WISHES),
        lambda: "changes " + str(rng.choice((0, 1, 2, 3, 5, 8, 39, 10 ** 59))),
        *[lambda: rng.choice(("events", "log", "names", "lets", "bars", "table", "verdicts", "alarms", "cures"))] * 6,
        lambda: "bench " + book() if rng.random() < 0.2 else "log", lambda: rng.choice(ODD_ROWS), lambda: rng.choice(ANY_VALUES),
        lambda: rng.choice(changed_texts(line())),
    ])()


class DeskTest(Checks):
    def told(self, desk, plain, row):
        """One row to a desk, by position or by name, and to the plain one."""
        expected = plain.say(row)
        told = inspect.signature(desk.say)
        self.assertEqual(list(told.parameters), ["row"])
        by_name = plain.asked % 2
        if isinstance(expected, ValueError):
            fields = vars(expected)
            if by_name:
                self.assert_raises(type(expected), fields, desk.say, row=row)
            else:
                self.assert_raises(type(expected), fields, desk.say, row)
        else:
            self.assert_is(desk.say(row=row) if by_name else desk.say(row), expected)
        self.assert_is(desk.tally(), plain.tally())
        return expected

    def test_examples(self):
        desk = Desk(LIST)
        self.assert_is([desk.say("all let s / bar p -> s"), desk.say("verdicts"), desk.say("alarms"), desk.say("cures")],
                       ["2", "p -> s: endless / s: one", "p -> s by nil", "-"])
        self.assert_is([desk.say("name x: p"), desk.say("changes 2"), desk.say("log")],
                       ["ok", "s: one to endless", "let s / bar p -> s / name x: p"])
        self.assert_is(desk.tally(), (7, 0))

    def test_written_out(self):
        desk = Desk(book=SAFE)
        for row, answer in (
            ("names", "a: q, u: s -> t, v: s"), ("events", "0"), ("log", "-"), ("lets", "-"), ("bars", "-"), ("table", "-"), ("verdicts", "-"),
            ("alarms", "-"), ("cures", "(a u v)"), ("of u", "s -> t"), ("verdict t", "one"), ("verdict r", "none"), ("let q", "ok"),
            ("bar t", "ok"), ("let s -> q", "ok"), ("lets", "q / s -> q"), ("bars", "t"), ("verdicts", "q: one / s -> q: one / t: one"),
            ("table", "let    one     q / let    one     s -> q / barred one     t"), ("alarms", "t by u(v)"), ("cures", "(a u) (a v)"),
            ("changes 0", "-"), ("against let q", "known"), ("against drop b", "unknown"), ("against drop a", "-"), ("against bar q", "both"),
            ("tried drop a", "q: none / s -> q: none / t: one"), ("tried drop a / free q / free t", "s -> q: none"),
            ("tried free q / free t / free s -> q", "-"), ("all drop v / name b: q", "2"), ("changes 3", "t: one to none"),
            ("changes 4", "q: one to some / s -> q: one to some"), ("alarms", "-"), ("cures", "(a b u)"), ("events", "5"),
            ("log", "let q / bar t / let s -> q / drop v / name b: q"), ("undo", "name b: q"), ("undo", "drop v"), ("undo", "let s -> q"),
            ("names", "a: q, u: s -> t, v: s"), ("drop a", "ok"), ("alarms", "q / t by u(v)"), ("cures", "-"), ("bench -", "ok"), ("names", "-"),
            ("events", "0"), ("cures", "()"), ("bar p", "ok"), ("cures", "()"), ("bench x: p, y: p -> q", "ok"), ("lets", "-"),
            ("bar p", "ok"), ("bar q", "ok"), ("cures", "(y)"), ("kind x: p -> p", "ok"), ("of x", "p -> p"), ("verdict p -> p", "endless"),
            ("free q", "ok"), ("undo", "free q"), ("undo", "kind x: p -> p"), ("alarms", "p by x / q by y(x)"), ("verdict p -> p -> p", "some"),
        ):
            self.assert_is(desk.say(row), answer)
        for row, error, fields in (
            ("of b", NotUsable, {"word": "name", "at": -1}), ("changes 2", NotUsable, {"word": "k", "at": -1}),
            ("changes " + "9" * 60, NotUsable, {"word": "k", "at": -1}), ("bar q", InvalidEvent, {"event": ("bar", "q"), "reason": "known"}),
            ("all let r / bar r", Broken, {"done": 1}), ("tried let r / drop b", InvalidEvent, {"event": ("drop", "b"), "reason": "unknown"}),
            ("changes 02", InvalidRow, {"row": "changes 02"}), ("against", InvalidRow, {"row": "against"}), (None, InvalidRow, {"row": None}),
            ("all let r / undo", InvalidRow, {"row": "all let r / undo"}),
        ):
            self.assert_raises(error, fields, desk.say, row)
        self.assert_is([desk.say("log"), desk.say("undo"), desk.say("undo")], ["bar p / bar q", "bar q", "bar p"])
        self.assert_raises(NothingToUndo, {"steps": 0}, desk.say, "undo")
        try:
            desk.say("all let r / bar r")
        except Broken as error:
            self.assertIs(type(error.__cause__), InvalidEvent)
            self.assert_is([error.__cause__.event, error.__cause__.reason], [("bar", "r"), "both"])

    def test_two_desks_by_turns(self):
        rng, met, errors = random.Random(76), {}, {}
        for _ in range(40):
            books = [random_book(rng, 4, 3, ("p", "q"), 2) for _ in range(2)]
            desks = [(Desk(book), PlainDesk(book)) for book in books]
            for _ in range(110):
                desk, plain = rng.choice(desks)
                row = random_row(rng)
                answer = self.told(desk, plain, row)
                told = told_by(row)
                met[told and told[0]] = met.get(told and told[0], 0) + 1
                if isinstance(answer, ValueError):
                    errors[type(answer).__name__] = errors.get(type(answer).__name__, 0) + 1
            for desk, plain in desks:
                for row in ("log", "names", "lets", "bars", "table", "verdicts", "alarms", "cures", "events"):
                    self.told(desk, plain, row)
        self.assertEqual(len(met), 19)
        self.assertGreater(min(met.values()), 3, met)
        self.assertEqual(set(errors), {"InvalidRow", "InvalidEvent", "NothingToUndo", "Broken", "NotUsable"})
        self.assertGreater(min(errors.values()), 5, errors)

    def test_no_rows(self):
        """The very object is told, and nothing changes."""
        desk, plain = Desk(PAIR), PlainDesk(PAIR)
        for row in ("let q", "bar p"):
            self.told(desk, plain, row)
        for row in ODD_ROWS + ANY_VALUES + [("let", "p"), ["let p"], ("undo",), b"undo", Book(PAIR), desk]:
            try:
                desk.say(row)
            except InvalidRow as error:
                self.assertIs(error.row, row)
                self.assertEqual(list(vars(error)), ["row"])
            else:
                self.fail(row)
            plain.say(row)
        self.told(desk, plain, "log")
        for row in ("verdict p -> q", "changes 0", "of f", "all let q -> q / drop a", "bench a: p, b: p -> q", "against let p"):
            for changed in changed_texts(row):
                other, plain = Desk(PAIR), PlainDesk(PAIR)
                self.told(other, plain, "let q")
                self.told(other, plain, changed)

    def test_not_usable(self):
        self.check_parameters(Desk, {"book": PAIR}, {"book": NO_BOOKS + [Book(PAIR)]})
        self.assert_unusable("book", -1, Desk, Desk(PAIR))
        with self.assertRaises(TypeError):
            Desk()

    def test_desks_are_apart(self):
        one, two = Desk(PAIR), Desk(PAIR)
        one.say("let q")
        self.assert_is([one.say("lets"), two.say("lets"), one.tally(), two.tally()], ["q", "-", (2, 0), (1, 0)])


if __name__ == "__main__":
    unittest.main()
