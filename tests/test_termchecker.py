import random
import unittest

from books import LIST, PAIR
from checks import Checks
from onlygiven.bookclasses import Book
from onlygiven.errors import InvalidPaper
from onlygiven.termchecker import kind_of, lets_term
from plainly import makers_of_size, wishes_of_all_sorts
from termly import changed_term, plain_kind, term_fault, terms_for
from values import ANY_VALUES, NO_BOOKS, nested

WISHES = wishes_of_all_sorts(21, 90, names=5) + wishes_of_all_sorts(211, 50, names=4, order=3)

# Makers with their books and wishes, up to some size and number.
MADE = [(book, wish, maker) for book, wish in WISHES
        for size in range(1, 6) for maker in makers_of_size(book, wish, size)[:3]]

NO_TERMS = [thing for thing in ANY_VALUES if term_fault(PAIR, thing) is not None] + [
    "c", ("call", "f", ("a", "f")), ("call", "a", ("b",)), ("call", "f", ("a", "b", "a")), ("fun", (("x", "p"),), "y"),
    ("call", "f", ()), ("call", "f", ["a"]), ("fun", (("a", "q"),), ("call", "f", ("a",))), ("fun", (("x", "p"), ("x", "q")), "a"),
    ("gap",), ("call", "f", (("gap",),)),
]


class TermCheckerTest(Checks):
    def judged(self, book, thing):
        fault = term_fault(book, thing)
        if fault is None:
            kind = plain_kind(book, thing)
            self.assert_gives(kind, lets_term, book=book, thing=thing)
            self.assert_gives(kind, kind_of, book=book, term=thing)
            return None
        fields = {"word": fault[0], "at": fault[1]}
        self.assert_raises(InvalidPaper, fields, lets_term, book, thing)
        self.assert_raises(InvalidPaper, fields, lets_term, book=book, thing=thing)
        self.assert_unusable("term", -1, kind_of, book, thing)
        return fault[0]

    def test_examples(self):
        self.assert_gives("p -> p -> q", kind_of, book=PAIR, term=("fun", (("x", "p"),), ("call", "f", ("x",))))
        self.assert_raises(InvalidPaper, {"word": "shape", "at": (1,)}, lets_term, PAIR, ("call", "zz", (3,)))
        self.assert_raises(InvalidPaper, {"word": "kind", "at": (2,)}, lets_term, PAIR, ("call", "f", ("a", "f")))

    def test_kinds_written_out(self):
        for term, kind in (
            ("a", "p"), ("f", "p -> p -> q"), (("call", "f", ("a",)), "p -> q"), (("call", "f", ("a", "b")), "q"),
            (("call", ("call", "f", ("a",)), ("b",)), "q"), (("fun", (("x", "p -> q"),), "x"), "(p -> q) -> p -> q"),
            (("fun", (("x", "r"), ("y", "s")), "a"), "r -> s -> p"), (("fun", (("f", "p"),), "f"), "p -> p"),
            (("fun", (("a", "p -> p"),), ("call", "a", ("b",))), "(p -> p) -> p"),
            (("fun", (("x", "p"),), ("fun", (("x", "q"),), "x")), "p -> q -> q"),
            (("call", ("fun", (("x", "p"), ("y", "q")), "y"), ("a",)), "q -> q"),
            (("call", ("fun", (("x", "p -> p -> q"),), ("call", "x", ("a", "a"))), ("f",)), "q"),
        ):
            with self.subTest(term=term):
                self.assertEqual(plain_kind(PAIR, term), kind)
                self.judged(PAIR, term)

    def test_faults_written_out(self):
        bad = ("call", "a", ("b",))
        for term, word, place in (
            (3, "shape", ()), (("call", "f", ("a", True)), "shape", (2,)), (("call", 3, (4,)), "shape", (0,)),
            (("fun", (("x", "p"),), ("call", "x", ())), "shape", (0,)), (("fun", (), "a"), "shape", ()), ("F", "shape", ()),
            (("call", "zz", ("a", ("fun", (("x", "p"),), ("gap",)))), "shape", (2, 0)), ("c", "name", ()),
            (("call", "c", ("d",)), "name", (0,)), (("call", bad, ("c",)), "name", (1,)), (("fun", (("x", "p"),), "y"), "name", (0,)),
            (("call", ("fun", (("x", "p"),), "x"), ("x",)), "name", (1,)), (bad, "parts", ()), (("call", bad, (bad,)), "parts", (0,)),
            (("call", "f", (bad,)), "parts", (1,)), (("call", "a", (bad,)), "parts", (1,)), (("call", "f", ("f", bad)), "parts", (2,)),
            (("call", "f", ("f", "f", "f")), "parts", ()), (("call", "f", ("f", "f")), "kind", (1,)), (("call", "f", ("a", "f")), "kind", (2,)),
            (("call", "f", (("call", "f", ("a", "a")), bad)), "parts", (2,)), (("call", "f", (("call", "f", ("f",)), bad)), "kind", (1, 1)),
            (("fun", (("x", "p"),), ("call", "f", ("x", "f"))), "kind", (0, 2)),
            (("call", ("fun", (("x", "q"),), ("call", "f", ("x",))), (bad,)), "kind", (0, 0, 1)),
            (("call", ("fun", (("x", "p"),), "x"), ("a", "a")), "parts", ()), (("fun", (("a", "q"),), ("call", "f", ("a",))), "kind", (0, 1)),
        ):
            with self.subTest(term=term):
                self.assertEqual(term_fault(PAIR, term), (word, place))
                self.assertEqual(self.judged(PAIR, term), word)

    def test_any_value(self):
        for thing in ANY_VALUES + [Book(), Book(PAIR), ("call", Book(), ("a",)), ("fun", (("x", "p"),), Book())]:
            for term in (thing, ("call", "f", (thing,)), ("call", thing, ("a",)), ("fun", (("x", "p"),), thing), ("fun", thing, "a"),
                         ("fun", (thing,), "a"), ("call", "f", thing), (thing, "f", ("a",)), ("fun", (("x", thing),), "a")):
                self.judged(PAIR, term)

    def test_terms_of_makers(self):
        rng, longest = random.Random(21), 0
        for book, wish, maker in MADE:
            for term in terms_for(rng, book, wish, maker, 2):
                self.assertIsNone(self.judged(book, term))
                self.assertEqual(kind_of(book, term), wish)
                longest = max(longest, len(repr(term)))
        self.assertGreater(longest, 300)

    def test_changed_terms(self):
        """One change, and two, at drawn places."""
        rng, met = random.Random(212), {}
        for book, wish, maker in MADE:
            for term in terms_for(rng, book, wish, maker, 2):
                for _ in range(4):
                    changed = changed_term(rng, book, term)
                    if rng.random() < 0.4 and term_fault(book, changed) is None or rng.random() < 0.2:
                        changed = changed_term(rng, book, changed)
                    word = self.judged(book, changed)
                    met[word] = met.get(word, 0) + 1
        self.assertEqual(set(met), {None, "shape", "name", "parts", "kind"})
        self.assertGreater(min(met.values()), 60)

    def test_what_a_book_has_besides(self):
        rng = random.Random(213)
        for book, wish, maker in MADE[::3]:
            more = tuple(sorted((*book, ("q", "p -> q"))))
            for term in terms_for(rng, book, wish, maker, 1):
                self.assertEqual(kind_of(more, term), wish)

    def test_deep(self):
        book = (("f", "p -> p"), ("x", "p"))
        term = nested(1500, lambda inner: ("call", "f", (inner[0],)), "x")
        self.assertEqual(lets_term(book, term), "p")
        wrong = nested(1500, lambda inner: ("call", "f", (inner[0],)), "f")
        self.assert_raises(InvalidPaper, {"word": "kind", "at": (1,) * 1500}, lets_term, book, wrong)
        self.assert_unusable("term", -1, kind_of, book, wrong)

    def test_great(self):
        """Four hundred names in one call, and in funs one in the other."""
        book = (("f", " -> ".join(["p"] * 400)), ("x", "p"))
        self.assertEqual(lets_term(book, ("call", "f", ("x",) * 399)), "p")
        self.assert_raises(InvalidPaper, {"word": "parts", "at": ()}, lets_term, book, ("call", "f", ("x",) * 400))
        term = nested(400, lambda inner: ("fun", (("x", "p"),), inner[0]), "x")
        self.assertEqual(lets_term(LIST, term), " -> ".join(["p"] * 401))

    def test_not_usable(self):
        self.check_parameters(lets_term, {"book": PAIR, "thing": None}, {"book": NO_BOOKS + [Book(PAIR)]})
        self.check_parameters(kind_of, {"book": PAIR, "term": "a"}, {"book": NO_BOOKS + [Book(PAIR)], "term": NO_TERMS})


if __name__ == "__main__":
    unittest.main()
