import random
import unittest

from books import PAIR
from checks import Checks
from deskly import text_of
from onlygiven.bookclasses import Book
from onlygiven.recorders import Recorder
from plainly import makers_of_size, wishes_of_all_sorts
from termly import terms_for
from test_termchecker import NO_TERMS
from values import NO_BOOKS, NO_KINDS, NO_MAKERS

TERM = ("call", ("fun", (("x", "p"),), ("call", "f", ("x",))), ("b",))

WISHES = wishes_of_all_sorts(30, 120, names=5) + wishes_of_all_sorts(301, 50, names=4, order=3)


class RecorderTest(Checks):
    def test_example(self):
        self.assert_is(Recorder(PAIR)(TERM), "f(b, 0)")
        self.assert_is(Recorder(book=PAIR)(term=TERM), "f(b, 0)")

    def test_records(self):
        """Unlike makers of one wish have unlike records; what is alike has the same."""
        rng = random.Random(302)
        for book, wish in WISHES:
            recorder, records = Recorder(book), {}
            for maker in [maker for size in range(1, 5) for maker in makers_of_size(book, wish, size)[:4]]:
                text = text_of(maker)
                self.assert_gives(text, recorder.record, wish=wish, maker=maker)
                self.assertNotIn(text, records)
                records[text] = maker
                for term in terms_for(rng, book, wish, maker, 2):
                    self.assert_is(recorder(term), text)
                    self.assert_is(recorder(term=term), text)

    def test_not_usable(self):
        self.check_parameters(Recorder, {"book": PAIR}, {"book": NO_BOOKS + [Book(PAIR)]})
        recorder = Recorder(PAIR)
        for thing in NO_TERMS:
            self.assert_unusable("term", -1, recorder, thing)
        self.check_parameters(recorder.record, {"wish": "q", "maker": ("f", (("a", ()), ("b", ())))}, {
            "wish": NO_KINDS, "maker": NO_MAKERS + [("a", ()), ("f", (("a", ()),)), ("f", (("a", ()), (0, ())))]})


if __name__ == "__main__":
    unittest.main()
