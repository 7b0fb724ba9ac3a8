import random
import unittest

from books import DEAD, LIST, PAIR, ROUND
from checks import Checks
from judged import changed_count, count_fault
from makerly import numeral
from onlygiven.bookclasses import Book
from onlygiven.countchecker import lets_count
from onlygiven.counting import count_paper, how_many
from onlygiven.errors import InvalidPaper
from plainly import kind_of_tree, tree_of, trees_within, wishes_of_all_sorts
from values import ANY_VALUES, NO_BOOKS, NO_KINDS

WISHES = (
    wishes_of_all_sorts(41, 350, names=5) + wishes_of_all_sorts(411, 120, names=6, order=3)
    + wishes_of_all_sorts(412, 80, names=3, atoms=("p", "q"), size=6, order=3)
)

P, Q = (((), "p"), 2), (((), "q"), 4)
CONS = ("cons", ((0, ()), ("nil", ())))
ENDLESS = ("endless", CONS, (), (1,))


class CountCheckerTest(Checks):
    def judged(self, book, wish, thing):
        fault = count_fault(book, wish, thing)
        if fault is None:
            number = thing[1] if thing[0] == "just" else None
            self.assert_gives(number, lets_count, book=book, wish=wish, thing=thing)
            # What a checker accepts is true, whoever wrote it.
            self.assert_is(how_many(book, wish), number)
            return None
        fields = {"word": fault[0], "at": fault[1]}
        self.assert_raises(InvalidPaper, fields, lets_count, book, wish, thing)
        self.assert_raises(InvalidPaper, fields, lets_count, book=book, wish=wish, thing=thing)
        return fault[0]

    def test_examples(self):
        self.assert_is([lets_count(PAIR, "q", ("just", 4, (P, Q), ())), lets_count(ROUND, "p", ("just", 0, (), (((), "p"), ((), "q"))))],
                       [4, 0])
        self.assert_is(lets_count(LIST, "p -> s", ENDLESS), None)
        self.assert_is([how_many(DEAD, "p"), how_many(DEAD, "s"), lets_count(DEAD, "p", ("just", 1, ((((), "p"), 1),), (((), "r"),)))],
                       [1, None, 1])
        self.assert_raises(InvalidPaper, {"word": "row", "at": 0}, lets_count, PAIR, "q", ("just", 4, (Q, P), ()))

    def test_written_out(self):
        shut = (((), "r"),)
        for book, wish, thing, word, at in (
            (PAIR, "q", ("just", 4, (P, Q)), "shape", -1), (PAIR, "q", ["just", 4, (P, Q), ()], "shape", -1),
            (PAIR, "q", ("just", True, (P, Q), ()), "shape", -1), (PAIR, "q", ("just", None, (P, Q), ()), "shape", -1),
            (PAIR, "q", ("just", 4, [P, Q], ()), "shape", -1), (PAIR, "q", ("just", 4, (P, Q), []), "shape", -1),
            (PAIR, "q", ("some", 4, (P, Q), ()), "shape", -1), (PAIR, "q", ("just", -4, (P, Q), ()), "shape", -1),
            (LIST, "p -> s", ("endless", CONS, ()), "shape", -1), (LIST, "p -> s", ("endless", None, (), (1,)), "shape", ()),
            (LIST, "p -> s", ("endless", ("cons", ((0, ()),)), (), (1,)), "makers", ()),
            (LIST, "p -> s", ("endless", ("cons", ((0, ()), (0, ()))), (), (1,)), "head", (1,)),
            (LIST, "p -> s", ("endless", CONS, (2,), (1,)), "place", -1), (LIST, "p -> s", ("endless", CONS, [], (1,)), "place", -1),
            (LIST, "p -> s", ("endless", CONS, (), ()), "deeper", -1), (LIST, "p -> s", ("endless", CONS, (), (2,)), "deeper", -1),
            (LIST, "p -> s", ("endless", CONS, (0,), (1,)), "deeper", -1), (LIST, "p -> s", ("endless", CONS, (1,), ()), "deeper", -1),
            (LIST, "p -> s", ("endless", CONS, (), (True,)), "deeper", -1), (LIST, "p -> s", ("endless", CONS, (), (0,)), "atom", -1),
            (PAIR, "q", ("just", 4, (P, Q), (3,)), "stand", 0), (PAIR, "q", ("just", 4, (3, Q), (((), "p"),)), "open", 0),
            (PAIR, "q", ("just", 4, (P, Q), (((), "r"), ((), "q"))), "stand", 1), (PAIR, "q", ("just", 4, (3, Q), ()), "row", 0),
            (PAIR, "q", ("just", 4, (P, (((), "q"), 5)), ()), "row", 1), (PAIR, "q", ("just", 4, (Q,), ()), "row", 0),
            (PAIR, "q", ("just", 4, (P, ((("p",), "q"), 4)), ()), "row", 1), (PAIR, "q", ("just", 4, (P, P, 3), ()), "row", 2),
            (PAIR, "q", ("just", 4, ((((), "p"), True), Q), ()), "row", 0), (PAIR, "q", ("just", 2, (P, Q), ()), "first", -1),
            (PAIR, "q", ("just", 2, (P,), ()), "first", -1), (PAIR, "q", ("just", 4, (P, Q, P), ()), "first", -1),
            (PAIR, "q", ("just", 4, (), ()), "first", -1), (PAIR, "q", ("just", 0, (), ()), "first", -1),
            (PAIR, "q", ("just", 0, (P, Q), ()), "first", -1), (PAIR, "r", ("just", 1, (), shut), "first", -1),
            # A row that is needed has to be there, also beside a 0.
            ((("f", "p -> r -> q"),), "q", ("just", 0, ((((), "p"), 0), (((), "q"), 0)), ()), "row", 1),
            ((("f", "p -> r -> q"),), "q", ("just", 0, ((((), "q"), 0),), (((), "r"), ((), "s"))), None, None),
            ((("f", "p -> r -> q"),), "q", ("just", 0, ((((), "p"), 0), (((), "r"), 0), (((), "q"), 0)), ()), None, None),
            (PAIR, "r", ("just", 0, (), shut), None, None), (PAIR, "r", ("just", 0, (P, Q), shut), None, None),
            (PAIR, "r", ("just", 0, ((((), "r"), 0),), ()), None, None), (PAIR, "q", ("just", 4, (P, P, Q), ()), None, None),
            (PAIR, "q", ("just", 4, (Q, P, Q)[1:], shut), None, None), (PAIR, "q", ("just", 4, (P, (((), "r"), 0), Q), ()), None, None),
            ((), "p -> p -> p", ("just", 2, (((("p", "p"), "p"), 2),), ()), None, None),
            ((), "p -> p -> p", ("just", 2, (((("p",), "p"), 1), ((("p", "p"), "p"), 2)), ()), None, None),
            ((), "p -> p -> p", ("just", 1, (((("p",), "p"), 1),), ()), "first", -1),
            ((), "(q -> r) -> p -> p", ("just", 1, (((("p", "q -> r"), "p"), 1),), ()), None, None),
            ((), "(q -> r) -> p -> p", ("just", 1, (((("q -> r", "p"), "p"), 1),), ()), "row", 0),
            ((), "(p -> p) -> p -> p", ("endless", numeral(2), (), (0,)), None, None),
            ((), "(p -> p) -> p -> p", ("endless", numeral(2), (0,), (0, 0)), None, None),
        ):
            with self.subTest(thing=thing):
                self.assertEqual(count_fault(book, wish, thing), None if word is None else (word, at))
                self.judged(book, wish, thing)

    def test_any_value(self):
        for thing in ANY_VALUES + [Book(), ("just", Book(), (), ())]:
            for paper in (thing, ("just", thing, (P, Q), ()), ("just", 4, thing, ()), ("just", 4, (P, Q), thing), (thing, 4, (P, Q), ()),
                          ("just", 4, (P, thing, Q), ()), ("just", 4, (P, Q), (thing,)), ("just", 4, ((thing, 2), Q), ()),
                          ("just", 4, ((((), thing), 2), Q), ()), ("just", 4, (((thing, "p"), 2), Q), ()), ("just", 4, ((((), "p"), thing), Q), ())):
                self.judged(PAIR, "q", paper)
            for paper in (("endless", thing, (), (1,)), ("endless", CONS, thing, (1,)), ("endless", CONS, (), thing), (thing, CONS, (), (1,))):
                self.judged(LIST, "p -> s", paper)

    def test_papers(self):
        """Those of the package, with one change and with two, and those of other wishes."""
        rng, met, accepted = random.Random(413), {}, 0
        for book, wish in WISHES:
            paper = count_paper(book, wish)
            self.assertIsNone(self.judged(book, wish, paper))
            self.assert_is(lets_count(book, wish, paper), how_many(book, wish))
            kinds = sorted({kind_of_tree(tree) for kind in [*dict(book).values(), wish] for tree in trees_within(tree_of(kind))})
            heads = [name for name, _ in book] + [0, 1, 2]
            for _ in range(12):
                changed = changed_count(rng, paper, kinds, ("p", "q", "r"), heads)
                if rng.random() < 0.4 and count_fault(book, wish, changed) is None:
                    changed = changed_count(rng, changed, kinds, ("p", "q", "r"), heads)
                word = self.judged(book, wish, changed)
                met[word] = met.get(word, 0) + 1
                accepted += word is None and changed != paper
            other, kind = rng.choice(WISHES)
            self.judged(other, wish, paper)
            self.judged(book, kind, paper)
        self.assertEqual(set(met), {None, "shape", "head", "makers", "place", "deeper", "atom", "stand", "open", "row", "first"})
        self.assertGreater(min(met.values()), 8, met)
        self.assertGreater(accepted, 300)

    def test_great_numbers(self):
        book = (("a", "p"), ("b", "p"), ("f", "p -> p -> p -> p -> p -> p -> p -> q"),
                ("g", "q -> q -> q -> q -> q -> q -> q -> r"), ("h", "r -> r -> r -> r -> r -> r -> r -> s"))
        self.assertEqual(lets_count(book, "s", count_paper(book, "s")), 2 ** 343)

    def test_not_usable(self):
        self.check_parameters(lets_count, {"book": PAIR, "wish": "q", "thing": None}, {
            "book": NO_BOOKS + [Book(PAIR)], "wish": NO_KINDS})


if __name__ == "__main__":
    unittest.main()
