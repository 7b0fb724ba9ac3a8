import random
import unittest

from books import LIST, PAIR
from checks import Checks
from makerly import numeral
from onlygiven.bookclasses import Book
from onlygiven.plainforms import plain_of
from onlygiven.termchecker import kind_of
from onlygiven.termforms import term_of
from plainly import makers_of_size, wishes_of_all_sorts
from termly import all_inner, is_plainly_a_fun, plain_by_values, plain_kind, term_fault, terms_for
from values import NO_BOOKS, NO_KINDS, NO_MAKERS

WISHES = wishes_of_all_sorts(25, 120, names=5) + wishes_of_all_sorts(251, 80, names=4, order=3)

MADE = [(book, wish, maker) for book, wish in WISHES
        for size in range(1, 6) for maker in makers_of_size(book, wish, size)[:4]]


class TermFormsTest(Checks):
    def written(self, book, wish, maker):
        term = term_of(book, wish, maker)
        self.assertIsNone(term_fault(book, term))
        self.assertEqual(plain_kind(book, term), wish)
        self.assertEqual(plain_by_values(book, term), maker)
        self.assert_gives(term, term_of, book=book, wish=wish, maker=maker)
        self.assertEqual(kind_of(book, term), wish)
        self.assertEqual(plain_of(book, term), maker)
        for _, inner, around in all_inner(term):
            if is_plainly_a_fun(inner):
                known = set(dict(book)).union(*[dict(fun[1]) for fun in around])
                self.assertFalse(known & set(dict(inner[1])))
        return term

    def test_terms_of_makers(self):
        for book, wish, maker in MADE:
            self.written(book, wish, maker)

    def test_written_out(self):
        for book, wish, maker, shape in (
            (PAIR, "p", ("a", ()), "a"), (PAIR, "q", ("f", (("a", ()), ("b", ()))), ("call", "f", ("a", "b"))),
        ):
            self.assert_is(self.written(book, wish, maker), shape)
        self.written(LIST, "p -> s", ("cons", ((0, ()), ("nil", ()))))
        self.written((), "(p -> p) -> p -> p", numeral(20))
        self.written((), "((p -> q) -> p -> q) -> p -> q -> q", (2, ()))

    def test_many_variables(self):
        """More than there are letters, beside names of one and of two letters."""
        book = tuple((name, "p") for name in ("a", "aa", "ab", "b", "z", "zz"))
        kind = " -> ".join(["p"] * 61)
        for head in (0, 25, 59):
            self.written(book, kind, (head, ()))
        row = "((p -> p) -> p) -> p"
        maker = (0, ((40, ()),))
        for _ in range(40):
            maker = (0, (maker,))
        self.written(book, row, maker)

    def test_terms_read_back(self):
        """Of terms written in several ways, with variables called like names of the book."""
        rng = random.Random(252)
        for book, wish, maker in MADE[::3]:
            for term in terms_for(rng, book, wish, maker, 2):
                self.written(book, wish, plain_of(book, term))

    def test_not_usable(self):
        self.check_parameters(term_of, {"book": PAIR, "wish": "q", "maker": ("f", (("a", ()), ("b", ())))}, {
            "book": NO_BOOKS + [Book(PAIR)], "wish": NO_KINDS,
            "maker": NO_MAKERS + [("a", ()), ("f", (("a", ()),)), ("f", (("a", ()), (0, ())))]})


if __name__ == "__main__":
    unittest.main()
