import random
import unittest

from books import PAIR, ROUND
from checks import Checks
from judged import changed_stands, shut_fault
from onlygiven.bookclasses import Book
from onlygiven.errors import InvalidPaper
from onlygiven.judging import can_make
from onlygiven.shuttables import shut_table
from onlygiven.tablechecker import lets_shut
from plainly import kind_of_tree, tree_of, trees_within, wishes_of_all_sorts
from values import ANY_VALUES, NO_BOOKS, NO_KINDS

WISHES = (
    wishes_of_all_sorts(36, 300, names=5) + wishes_of_all_sorts(361, 100, names=5, order=3)
    + wishes_of_all_sorts(362, 60, names=3, atoms=("p", "q"), size=6, order=3)
)

P, Q = ((), "p"), ((), "q")


class TableCheckerTest(Checks):
    def judged(self, book, wish, thing):
        fault = shut_fault(book, wish, thing)
        if fault is None:
            self.assert_gives(len(thing), lets_shut, book=book, wish=wish, thing=thing)
            # What a checker accepts is true, whoever wrote it.
            self.assertFalse(can_make(book, wish))
            return None
        fields = {"word": fault[0], "at": fault[1]}
        self.assert_raises(InvalidPaper, fields, lets_shut, book, wish, thing)
        self.assert_raises(InvalidPaper, fields, lets_shut, book=book, wish=wish, thing=thing)
        return fault[0]

    def test_examples(self):
        self.assert_gives(2, lets_shut, book=ROUND, wish="p", thing=(P, Q))
        self.assert_raises(InvalidPaper, {"word": "open", "at": 0}, lets_shut, ROUND, "p", (P,))

    def test_written_out(self):
        for book, wish, thing, word, at in (
            (ROUND, "p", None, "shape", -1), (ROUND, "p", [P, Q], "shape", -1), (ROUND, "p", (), "first", -1),
            (ROUND, "p", (Q, P), "stand", 1), (ROUND, "p", (P, P, Q), "stand", 1), (ROUND, "p", (P, 3), "stand", 1),
            (ROUND, "p", (P, Q, None), "stand", 2), (ROUND, "p", (3, P), "stand", 0), (ROUND, "p", (Q, P, 3), "stand", 1),
            (ROUND, "p", (Q,), "first", -1), (ROUND, "p", (P,), "open", 0), (ROUND, "p", (P, (("q",), "q")), "open", 0),
            (ROUND, "p", (P, Q, (("p",), "p")), "open", 2), (ROUND, "q -> p", (P, Q), "first", -1),
            (ROUND, "q -> p", ((("q",), "p"), (("q",), "q")), "open", 1), (PAIR, "p", (P,), "open", 0),
            (PAIR, "q", (P, Q), "open", 0), (PAIR, "q", (Q,), "open", 0), ((), "p -> p", ((("p",), "p"),), "open", 0),
        ):
            with self.subTest(thing=thing):
                self.assertEqual(shut_fault(book, wish, thing), (word, at))
                self.judged(book, wish, thing)
        for book, wish, thing in (
            (PAIR, "r", (((), "r"),)), ((), "p", (P,)), (ROUND, "p", (P, Q, ((), "zz"))), (ROUND, "p", (P, Q, (("p",), "zz"))),
            ((), "((p -> q) -> p) -> p", ((("(p -> q) -> p",), "p"), (("(p -> q) -> p", "p"), "q"))), (ROUND, "q", (P, Q)),
            ((("f", "p -> q -> r"), ("g", "p")), "r", (Q, ((), "r"))),
        ):
            with self.subTest(thing=thing):
                self.assertIsNone(self.judged(book, wish, thing))

    def test_any_value(self):
        for thing in ANY_VALUES + [Book(), (Book(),), (P, Book())]:
            for paper in (thing, (thing,), (P, thing), (thing, P, Q), ((thing, "p"),), (((), thing),), (((thing,), "p"),)):
                for book, wish in ((ROUND, "p"), ((), "p"), (PAIR, "q")):
                    self.judged(book, wish, paper)

    def test_tables(self):
        """Those of the package, with one change and with two, and those of other wishes."""
        rng, met, accepted = random.Random(363), {}, 0
        for book, wish in WISHES:
            table = shut_table(book, wish)
            if table is None:
                continue
            self.assertIsNone(self.judged(book, wish, table))
            kinds = sorted({kind_of_tree(tree) for kind in [*dict(book).values(), wish] for tree in trees_within(tree_of(kind))})
            for _ in range(12):
                changed = changed_stands(rng, table, kinds + ["p -> r"], ("p", "q", "r"))
                if isinstance(changed, tuple) and rng.random() < 0.4 and shut_fault(book, wish, changed) is None:
                    changed = changed_stands(rng, changed, kinds + ["p -> r"], ("p", "q", "r"))
                word = self.judged(book, wish, changed)
                met[word] = met.get(word, 0) + 1
                accepted += word is None and changed != table
            other, kind = rng.choice(WISHES)
            self.judged(other, wish, table)
            self.judged(book, kind, table)
        self.assertEqual(set(met), {None, "shape", "stand", "first", "open"})
        self.assertGreater(min(met.values()), 50)
        self.assertGreater(accepted, 100)

    def test_not_usable(self):
        self.check_parameters(lets_shut, {"book": ROUND, "wish": "p", "thing": None}, {
            "book": NO_BOOKS + [Book(ROUND)], "wish": NO_KINDS})


if __name__ == "__main__":
    unittest.main()
