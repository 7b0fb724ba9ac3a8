import unittest

from books import DEAD, LIST, PAIR, PEIRCE, ROUND
from checks import Checks
from onlygiven.bookclasses import Book
from onlygiven.counting import count_paper, how_many, how_many_of
from onlygiven.judging import can_make
from plainly import check_count_paper, has_endlessly_many, makers_of_size, number_of_makers, wishes_of_all_sorts
from values import NO_BOOKS, NO_KINDS, NO_NUMBERS, SIXTY_DIGITS

WISHES = (
    wishes_of_all_sorts(40, 500, names=5) + wishes_of_all_sorts(401, 150, names=6, order=3)
    + wishes_of_all_sorts(402, 100, names=3, atoms=("p", "q"), size=6, order=3)
)

MOST_SIZE = 6


class CountingTest(Checks):
    def test_examples(self):
        self.assert_is([
            how_many(PAIR, "q"), how_many(ROUND, "p"), how_many(LIST, "p -> s"), how_many_of(LIST, "p -> p -> s", 3),
        ], [4, 0, None, 2])
        self.assert_is([how_many(DEAD, "p"), how_many(DEAD, "s")], [1, None])

    def test_written_out(self):
        for book, wish, number in (
            ((), "p", 0), ((), "p -> p", 1), ((), "p -> p -> p", 2), ((), PEIRCE, 0), ((), "(p -> p) -> p -> p", None),
            ((), "((p -> p) -> p) -> p", None), ((), "(p -> q) -> p -> q", 1), ((), "(p -> q) -> (p -> q) -> p -> p -> q", 4),
            ((), "((p -> q) -> r) -> q -> r", 1), ((), "((p -> p) -> q) -> q", 1), ((), "((p -> p -> p) -> q) -> q", 2),
            ((), "((p -> p) -> q) -> p -> q", 2), (PAIR, "p -> q", 9), (PAIR, "p -> p -> p -> q", 25), (PAIR, "r", 0),
            (ROUND, "p -> p", None), (ROUND, "q -> p", None), (LIST, "s", 1), (LIST, "s -> s", 2), (LIST, "p", 0),
            ((("f", "(p -> p -> p) -> q"),), "q", 2), ((("f", "(p -> p -> p) -> q"),), "p -> q", 3),
            ((("f", "p -> q"), ("g", "p -> q"), ("h", "r -> q")), "p -> p -> q", 4),
        ):
            with self.subTest(book=book, wish=wish):
                self.assert_gives(number, how_many, book=book, wish=wish)
                self.assertEqual(number_of_makers(book, wish), number)
                self.assertEqual(check_count_paper(book, wish, count_paper(book, wish)), number)

    def test_how_many_at_random(self):
        met = {}
        for book, wish in WISHES:
            number = number_of_makers(book, wish)
            met[number] = met.get(number, 0) + 1
            self.assert_gives(number, how_many, book=book, wish=wish)
            self.assertIs(can_make(book, wish), number != 0)
        self.assertGreater(min(met[number] for number in (0, 1, 2, 3, None)), 5)
        self.assertGreater(len(met), 7)

    def test_endlessly_many(self):
        for book, wish in WISHES:
            self.assertIs(how_many(book, wish) is None, has_endlessly_many(book, wish))

    def test_how_many_of_at_random(self):
        greatest = 0
        for book, wish in WISHES:
            for size in range(MOST_SIZE + 1):
                makers = makers_of_size(book, wish, size)
                self.assert_gives(len(makers), how_many_of, book=book, wish=wish, size=size)
                greatest = max(greatest, len(makers))
        self.assertGreater(greatest, 50)

    def test_sum_over_all_sizes(self):
        """Without endlessly many no maker has more levels than there are atoms."""
        for book, wish in WISHES:
            number = how_many(book, wish)
            if number is not None:
                self.assertEqual(sum(how_many_of(book, wish, size) for size in range(60)), number, (book, wish))
            else:
                self.assertGreater(sum(how_many_of(book, wish, size) for size in range(20)), 0)

    def test_papers_at_random(self):
        for book, wish in WISHES:
            for paper in (count_paper(book, wish), count_paper(book=book, wish=wish)):
                self.assertEqual(check_count_paper(book, wish, paper), how_many(book, wish), (book, wish, paper))

    def test_papers_written_out(self):
        self.assert_is(count_paper(PAIR, "q"), ("just", 4, ((((), "p"), 2), (((), "q"), 4)), ()))
        self.assert_is(count_paper(ROUND, "p"), ("just", 0, (), (((), "p"), ((), "q"))))
        self.assert_is(count_paper(LIST, "p -> s"), ("endless", ("cons", ((0, ()), ("nil", ()))), (), (1,)))
        self.assert_is(count_paper(DEAD, "p"), ("just", 1, ((((), "p"), 1),), (((), "r"),)))

    def test_the_checker_of_these_tests(self):
        """It refuses what is not right, so that it tells something."""
        for paper in (
            ("just", 4, ((((), "q"), 4), (((), "p"), 2)), ()), ("just", 4, ((((), "p"), 2), (((), "q"), 5)), ()),
            ("just", 5, ((((), "p"), 2), (((), "q"), 4)), ()), ("just", 0, (), (((), "q"),)), ("just", 0, (), ()),
            ("endless", ("f", (("a", ()), ("b", ()))), (), (0,)), ("endless", ("a", ()), (), (0,)),
        ):
            with self.assertRaises((AssertionError, KeyError, IndexError)):
                check_count_paper(PAIR, "q", paper)

    def test_more_names_make_no_number_less(self):
        for book, wish in WISHES[:200]:
            before = how_many(book, wish)
            for kind in ("p", "p -> q", "(q -> p) -> r"):
                after = how_many(tuple(sorted((*book, ("c", kind)))), wish)
                self.assertTrue(after is None or (before is not None and before <= after))

    def test_great_numbers(self):
        book = (("a", "p"), ("b", "p"), ("f", "p -> p -> p -> p -> p -> p -> p -> q"),
                ("g", "q -> q -> q -> q -> q -> q -> q -> r"), ("h", "r -> r -> r -> r -> r -> r -> r -> s"))
        number = 2 ** 343
        self.assert_is(how_many(book, "s"), number)
        self.assertEqual(check_count_paper(book, "s", count_paper(book, "s")), number)
        self.assert_is(how_many_of(book, "s", 400), number)
        for size in (0, 1, 399, 401, 10 ** 6, SIXTY_DIGITS):
            self.assert_is(how_many_of(book, "s", size), 0)

    def test_any_size(self):
        for book, wish in WISHES[:200]:
            if how_many(book, wish) is not None:
                self.assert_is(how_many_of(book, wish, SIXTY_DIGITS), 0)

    def test_great_sizes(self):
        for size in range(64):
            # A list of so many elements, each one of two variables.
            self.assert_is(how_many_of(LIST, "p -> p -> s", size), 2 ** (size // 2) if size % 2 else 0)
            self.assert_is(how_many_of((), "(p -> p) -> p -> p", size), 1 if size else 0)
        # Trees with two makers at each head that has some: the numbers of Catalan.
        tree = (("f", "p -> p -> p"), ("x", "p"))
        self.assert_is([how_many_of(tree, "p", size) for size in range(16)],
                       [0, 1, 0, 1, 0, 2, 0, 5, 0, 14, 0, 42, 0, 132, 0, 429])
        # Each head opens one more variable, and the last place takes any of them.
        self.assert_is([how_many_of((), "((p -> p) -> p) -> p", size) for size in range(12)], [0] + list(range(11)))

    def test_not_usable(self):
        wrong = {"book": NO_BOOKS + [Book(PAIR)], "wish": NO_KINDS}
        for function in (how_many, count_paper):
            self.check_parameters(function, {"book": PAIR, "wish": "q"}, wrong)
        self.check_parameters(how_many_of, {"book": PAIR, "wish": "q", "size": 3}, {**wrong, "size": NO_NUMBERS})


if __name__ == "__main__":
    unittest.main()
