import unittest

from checks import Checks
from onlygiven.bookchecker import lets_book
from onlygiven.errors import GivenError, InvalidPaper
from onlygiven.kinds import is_book, is_entry
from values import ANY_VALUES

PAIR = (("a", "p"), ("b", "p"), ("f", "p -> p -> q"))


class BookCheckerTest(Checks):
    def refused(self, thing, word, at):
        self.assert_raises(InvalidPaper, {"word": word, "at": at}, lets_book, thing)

    def test_books(self):
        self.assert_is(lets_book(()), 0)
        self.assert_is(lets_book(PAIR), 3)
        self.assert_is(lets_book(thing=PAIR[:1]), 1)
        self.assert_is(lets_book((("a", "q"), ("aa", "p"), ("ab", "p"), ("b", "(p -> q) -> p"))), 4)

    def test_example(self):
        self.refused(PAIR + PAIR[:1], "order", 3)

    def test_shape(self):
        for thing in (None, True, 0, "", "a", [], list(PAIR), [("a", "p")]):
            self.refused(thing, "shape", -1)

    def test_entry(self):
        for wrong in (None, (), [], "ap", ["a", "p"], ("a",), ("a", "p", "q"), ("", "p"), ("abcdefghi", "p"),
                      ("a", "(p)"), ("a", "p ->"), ("A", "p"), (0, "p"), ("a", 0), (["a"], "p"), ("a", ["p"])):
            self.refused((wrong,), "entry", 0)
            self.refused((("a", "p"), wrong), "entry", 1)
            self.refused(PAIR + (wrong, wrong), "entry", 3)

    def test_order(self):
        self.refused((("b", "p"), ("a", "p")), "order", 1)
        self.refused((("a", "p"), ("a", "p")), "order", 1)
        self.refused((("a", "p"), ("a", "q")), "order", 1)
        self.refused((("a", "q"), ("a", "p")), "order", 1)
        self.refused((("aa", "p"), ("a", "p")), "order", 1)
        self.refused((("a", "p"), ("c", "p"), ("b", "p")), "order", 2)

    def test_only_the_one_before_counts(self):
        self.refused((("c", "p"), ("a", "p"), ("b", "p")), "order", 1)

    def test_first_of_two_faults(self):
        order, entry = ("a", "p"), ("a", "(p)")
        self.refused((("b", "p"), order, entry), "order", 1)
        self.refused((("b", "p"), entry, order), "entry", 1)
        self.refused((entry, ("b", "p"), order), "entry", 0)
        self.refused((("b", "p"), order, order), "order", 1)
        self.refused((None, None), "entry", 0)
        # One element with both faults: its form is looked at first.
        self.refused((("b", "p"), ("a", "(p)")), "entry", 1)
        self.refused([("b", "p"), ("a", "p"), None], "shape", -1)

    def test_any_value(self):
        for thing in ANY_VALUES:
            if is_book(thing):
                self.assert_is(lets_book(thing), len(thing))
            elif not isinstance(thing, tuple):
                self.refused(thing, "shape", -1)
            else:
                first = [is_entry(element) for element in thing].index(False)
                self.refused(thing, "entry", first)

    def test_family(self):
        with self.assertRaises(GivenError):
            lets_book(None)


if __name__ == "__main__":
    unittest.main()
