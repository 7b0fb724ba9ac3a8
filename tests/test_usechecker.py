import random
import unittest

from books import LIST, PAIR
from checks import Checks
from onlygiven.bookclasses import Book
from onlygiven.errors import InvalidPaper
from onlygiven.judging import can_make
from onlygiven.usechecker import lets_uses
from onlygiven.uses import most_uses, use_paper
from plainly import kind_of_tree, makers_of_size, tree_of, trees_within
from test_uses import CASES
from usedly import changed_use, use_fault
from values import ANY_VALUES, NO_BOOKS, NO_KINDS, NO_MAKERS, NO_NAMES

CONS = ("cons", ((0, ()), ("nil", ())))
FAA, FAB = [("f", (("a", ()), (name, ()))) for name in "ab"]
P, Q = (((), "p"), 1), (((), "q"), 2)


class UseCheckerTest(Checks):
    def judged(self, book, wish, name, thing):
        fault = use_fault(book, wish, name, thing)
        if fault is None:
            number = most_uses(book, wish, name)
            self.assert_gives(number, lets_uses, book=book, wish=wish, name=name, thing=thing)
            return None
        fields = {"word": fault[0], "at": fault[1]}
        self.assert_raises(InvalidPaper, fields, lets_uses, book, wish, name, thing)
        self.assert_raises(InvalidPaper, fields, lets_uses, book=book, wish=wish, name=name, thing=thing)
        return fault[0]

    def test_example(self):
        self.assert_raises(InvalidPaper, {"word": "use", "at": -1}, lets_uses, LIST, "p -> s", "nil", ("endless", CONS, (), (1,)))
        self.assert_is(lets_uses(LIST, "p -> s", "cons", ("endless", CONS, (), (1,))), None)

    def test_written_out(self):
        for thing, word, at in (
            (("most", FAA, (P, Q)), None, None), (("most", FAA, (P, (Q[0], 3))), "most", -1), (("most", FAB, (P, Q)), "most", -1),
            (("most", FAA, (P, (Q[0], 1))), "step", 1), (("most", FAA, (P, (Q[0], None))), "first", -1), (("most", FAA, (P,)), "first", -1),
            (("most", FAA, (Q,)), "step", 0), (("most", FAA, ((P[0], 0), Q)), "step", 0), (("most", FAA, ((P[0], None), Q)), "step", 0),
            (("most", FAA, (Q, P)), "stand", 1), (("most", FAA, (P, P, Q)), "stand", 1), (("most", FAA, (((("p",), "p"), 1), P, Q)), "stand", 1),
            (("most", FAA, (P, Q, ((("p",), "q"), 1))), "step", 2), (("most", FAA, (P, Q, ((("p",), "r"), 1))), "stand", 2),
            (("most", FAA, (P, Q, (((), "r"), None))), "stand", 2), (("most", FAA, (P, Q, ((("q -> p",), "q"), 1))), "stand", 2),
            (("most", FAA), "shape", -1), (("most", FAA, (P, Q), ()), "shape", -1), (("endless", FAA, ()), "shape", -1),
            (("most", FAA, [P, Q]), "shape", -1), (("most", FAA, (P, (Q[0], True))), "shape", -1), (("most", "f", (P, Q)), "shape", -1),
            (("most", ("f", (("a", ()), "a")), (P, Q)), "shape", -1), (("most", ("f", (("a", ()),)), (Q, P)), "makers", ()),
            (("most", ("a", ()), (P, Q)), "head", ()), (("endless", ("f", (("a", ()), "a")), (), (0,)), "shape", (1,)),
            (("endless", FAA, (), (0,)), "atom", -1), (("endless", FAA, (0,), (0,)), "deeper", -1), (("endless", FAA, (2,), (0,)), "place", -1),
            (("endless", FAA, None, None), "place", -1), (["most", FAA, (P, Q)], "shape", -1), (("MOST", FAA, (P, Q)), "shape", -1),
        ):
            with self.subTest(thing=thing):
                self.assertEqual(use_fault(PAIR, "q", "a", thing), None if word is None else (word, at))
                self.judged(PAIR, "q", "a", thing)
        book = (("f", "p -> p -> p"), ("x", "p"), ("y", "p"))
        maker = ("f", (("f", (("x", ()), ("y", ()))), ("y", ())))
        for place, deeper, name, word in (
            ((), (0,), "y", None), ((), (0,), "x", "use"), ((), (0, 0), "y", None), ((), (0, 0), "x", "use"), ((0,), (0, 0), "x", "use"),
            ((0,), (0, 1), "x", None), ((0,), (0, 0), "y", None), ((0,), (0, 1), "y", "use"), ((), (1,), "x", None), ((), (1,), "y", None),
            ((0,), (0, 1), "f", None), ((0, 0), (0,), "f", "deeper"), ((0,), (1,), "y", "deeper"), ((), (0,), "f", None),
        ):
            with self.subTest(place=place, deeper=deeper, name=name):
                self.assertEqual(self.judged(book, "p", name, ("endless", maker, place, deeper)), word)

    def test_rows_with_none(self):
        book = (("dead", "r -> p -> q"), ("f", "q"), ("g", "p -> p"), ("x", "p"))
        rows = ((((), "q"), 0), (((), "r"), None))
        self.assertIsNone(self.judged(book, "q", "g", ("most", ("f", ()), rows)))
        self.assertEqual(self.judged(book, "q", "g", ("most", ("f", ()), rows[:1])), "step")
        self.assertEqual(self.judged(book, "q", "g", ("most", ("f", ()), (*rows[:1], (((), "r"), 0)))), "step")
        # A variable of the kind of the name does not lessen what the head adds.
        self.assertEqual(self.judged(PAIR, "p -> p", "a", ("most", (0, ()), (((("p",), "p"), 0),))), "step")
        self.assertIsNone(self.judged(PAIR, "p -> p", "a", ("most", ("a", ()), (((("p",), "p"), 1),))))

    def test_any_value(self):
        for thing in ANY_VALUES + NO_MAKERS + [Book()]:
            for paper in (thing, ("most", thing, (P, Q)), ("most", FAA, thing), ("most", FAA, (thing,)), ("most", FAA, (P, (thing, 2))),
                          ("most", FAA, (P, (Q[0], thing))), (thing, FAA, (P, Q)), ("most", FAA, (P, ((thing, "q"), 2)))):
                self.judged(PAIR, "q", "a", paper)
            for paper in (("endless", thing, (), (1,)), ("endless", CONS, thing, (1,)), ("endless", CONS, (), thing), (thing, CONS, (), (1,))):
                self.judged(LIST, "p -> s", "cons", paper)

    def test_papers(self):
        """Those of the package, with one change and with two, and those of other names, wishes and books."""
        rng, met, accepted = random.Random(483), {}, 0
        good = [case for case in CASES if can_make(case[0], case[1])]
        for book, wish, name in good:
            paper = use_paper(book, wish, name)
            self.assertIsNone(self.judged(book, wish, name, paper))
            makers = [maker for size in range(1, 5) for maker in makers_of_size(book, wish, size)[:10]] + [paper[1]]
            kinds = sorted({kind_of_tree(tree) for kind in [*dict(book).values(), wish] for tree in trees_within(tree_of(kind))})
            heads = [other for other, _ in book] + [0, 1, 2]
            for _ in range(7):
                changed = changed_use(rng, paper, makers, kinds + ["p -> r -> z"], ("p", "q", "r"), heads)
                if rng.random() < 0.4 and use_fault(book, wish, name, changed) is None:
                    changed = changed_use(rng, changed, makers, kinds, ("p", "q", "r"), heads)
                word = self.judged(book, wish, name, changed)
                met[word] = met.get(word, 0) + 1
                accepted += word is None and changed != paper
            for other, _ in book:
                self.judged(book, wish, other, paper)
            other, kind, inner = rng.choice(good)
            self.judged(book, kind, name, paper)
            self.judged(other, wish, inner, paper)
        self.assertEqual(set(met), {
            None, "shape", "head", "makers", "stand", "first", "step", "most", "place", "deeper", "atom", "use"})
        self.assertGreater(min(met.values()), 10, met)
        self.assertGreater(accepted, 100)

    def test_not_usable(self):
        names = NO_NAMES + ["c", "p", "q", ""]
        self.check_parameters(lets_uses, {"book": PAIR, "wish": "q", "name": "a", "thing": None}, {
            "book": NO_BOOKS + [Book(PAIR)], "wish": NO_KINDS, "name": names})


if __name__ == "__main__":
    unittest.main()
