import inspect
import itertools
import unittest

from books import LIST, PAIR, ROUND
from checks import Checks
from onlygiven.bookclasses import Book
from onlygiven.counting import how_many, how_many_of
from onlygiven.judging import smallest_maker
from onlygiven.ordering import is_lesser, maker_at, makers_of, number_of
from plainly import makers_of_size, order_key, size_of_maker, wanted_places, wishes_of_all_sorts
from values import NO_BOOKS, NO_KINDS, NO_MAKERS, NO_NUMBERS

WISHES = (
    wishes_of_all_sorts(42, 120, names=5) + wishes_of_all_sorts(421, 60, names=6, order=3)
    + wishes_of_all_sorts(422, 40, names=3, atoms=("p", "q"), size=6, order=3)
)

MOST_SIZE = 6
MOST = 60


def in_order(book, wish):
    """The makers up to some size, in the order of the definition."""
    return [maker for size in range(MOST_SIZE + 1) for maker in sorted(makers_of_size(book, wish, size), key=order_key)]


NO_WISH_MAKERS = NO_MAKERS + [("a", ()), ("f", (("a", ()),)), ("f", (("a", ()), (0, ()))), (0, ()), ("zz", ())]


class OrderingTest(Checks):
    def test_examples(self):
        self.assert_is(
            [maker_at(PAIR, "q", 1), number_of(PAIR, "q", ("f", (("b", ()), ("a", ())))), maker_at(LIST, "p -> s", 1)],
            [("f", (("a", ()), ("b", ()))), 2, ("cons", ((0, ()), ("nil", ())))])
        self.assert_is(is_lesser((), "p -> p -> p", (0, ()), (1, ())), True)
        self.assert_unusable("k", -1, maker_at, PAIR, "q", 4)

    def test_there_and_back(self):
        longest = 0
        for book, wish in WISHES:
            makers = in_order(book, wish)[:MOST]
            longest = max(longest, len(makers))
            for k, maker in enumerate(makers):
                self.assert_gives(maker, maker_at, book=book, wish=wish, k=k)
                self.assert_gives(k, number_of, book=book, wish=wish, maker=maker)
            self.assert_is(list(itertools.islice(makers_of(book, wish), len(makers))), makers)
            self.assert_is(list(itertools.islice(makers_of(book=book, wish=wish), len(makers))), makers)
            if makers:
                self.assert_is(smallest_maker(book, wish), makers[0])
        self.assertEqual(longest, MOST)

    def test_all_of_a_number(self):
        met = set()
        for book, wish in WISHES:
            number = how_many(book, wish)
            if number is not None and number < 200:
                makers = list(makers_of(book, wish))
                self.assertEqual(len(makers), number)
                self.assertEqual(makers, sorted(set(makers), key=order_key))
                for maker in makers:
                    wanted_places(book, wish, maker)
                for k in (number, number + 1, 10 ** 60 - 1):
                    self.assert_unusable("k", -1, maker_at, book, wish, k)
                met.add(number)
        self.assertLess({0, 1, 2, 3}, met)

    def test_endlessly_many(self):
        for book, wish in WISHES:
            if how_many(book, wish) is None:
                makers = list(itertools.islice(makers_of(book, wish), 25))
                self.assertEqual(len(makers), 25)
                self.assertEqual(makers, sorted(set(makers), key=order_key))
                sizes = [size_of_maker(maker) for maker in makers]
                for size in range(max(sizes)):
                    self.assertEqual(sizes.count(size), how_many_of(book, wish, size))

    def test_written_out(self):
        self.assert_is(list(makers_of(PAIR, "q")), [("f", ((x, ()), (y, ()))) for x in "ab" for y in "ab"])
        self.assert_is(list(makers_of((), "p -> p -> p")), [(0, ()), (1, ())])
        self.assert_is(list(makers_of(ROUND, "p")), [])
        self.assert_is(list(makers_of(PAIR, "p -> p")), [("a", ()), ("b", ()), (0, ())])
        # The lesser size of the first maker counts before its head.
        tree = (("a", "p -> p"), ("b", "p -> p -> p"), ("x", "p"))
        self.assert_is([text for text in itertools.islice(makers_of(tree, "p"), 7)], [
            ("x", ()), ("a", (("x", ()),)), ("a", (("a", (("x", ()),)),)), ("b", (("x", ()), ("x", ()))),
            ("a", (("a", (("a", (("x", ()),)),)),)), ("a", (("b", (("x", ()), ("x", ()))),)),
            ("b", (("x", ()), ("a", (("x", ()),)))),
        ])

    def test_names_before_variables(self):
        wish = "(p -> p) -> p -> p"
        book = (("z", "p"),)
        self.assert_is(list(itertools.islice(makers_of(book, wish), 4)), [
            ("z", ()), (1, ()), (0, (("z", ()),)), (0, ((1, ()),))])
        many = "p -> " * 12 + "p"
        self.assert_is(list(makers_of((), many)), [(k, ()) for k in range(12)])

    def test_lesser(self):
        for book, wish in WISHES:
            makers = in_order(book, wish)[:12]
            for j, maker in enumerate(makers):
                for k, other in enumerate(makers):
                    self.assert_gives(j < k, is_lesser, book=book, wish=wish, maker=maker, other=other)

    def test_twelve_places(self):
        """As many places as are to be numbered, in wishes that open many variables."""
        for book, wish in (
            (LIST, "p -> p -> s"), ((), "((p -> p) -> p) -> p"), ((), "(p -> p -> p) -> p -> p -> p"),
            ((("f", "(p -> q) -> p"), ("g", "(q -> p) -> q"), ("h", "p -> q -> p")), "p -> q -> q"),
            ((("a", "(p -> q) -> p"), ("b", "(q -> r) -> p"), ("c", "(r -> p) -> q"), ("d", "((p -> q) -> r) -> r"),
              ("e", "p -> q -> r"), ("f", "p -> p"), ("g", "q -> r -> p"), ("h", "r -> q")), "(p -> q) -> (q -> r) -> p"),
        ):
            before = sum(how_many_of(book, wish, size) for size in range(12))
            least = maker_at(book, wish, before)
            self.assertGreaterEqual(size_of_maker(least), 12)
            for k in (before, before - 1, before // 2, before // 3):
                maker = maker_at(book, wish, k)
                wanted_places(book, wish, maker)
                self.assert_is(number_of(book, wish, maker), k)
            self.assert_is(is_lesser(book, wish, maker_at(book, wish, before - 1), least), True)

    def test_long_makers(self):
        church = "(p -> p) -> p -> p"
        maker = maker_at((), church, 150)
        self.assertEqual(size_of_maker(maker), 151)
        self.assert_is(number_of((), church, maker), 150)
        self.assert_is(is_lesser((), church, maker, maker_at((), church, 149)), False)

    def test_makers_are_a_generator(self):
        self.assertTrue(inspect.isgenerator(makers_of(LIST, "p -> s")))
        for thing in NO_BOOKS:
            makers = makers_of(thing, "p")
            self.assert_unusable("book", -1, next, makers)
        for thing in NO_KINDS:
            makers = makers_of(LIST, thing)
            self.assert_unusable("wish", -1, next, makers)
            makers = makers_of((("b", "p"), ("a", "p")), thing)
            self.assert_unusable("book", -1, next, makers)

    def test_not_usable(self):
        good = {"book": PAIR, "wish": "q"}
        wrong = {"book": NO_BOOKS + [Book(PAIR)], "wish": NO_KINDS}
        maker = ("f", (("a", ()), ("b", ())))
        self.check_parameters(maker_at, {**good, "k": 3}, {**wrong, "k": NO_NUMBERS + [4, 5, 10 ** 60 - 1]})
        self.check_parameters(number_of, {**good, "maker": maker}, {**wrong, "maker": NO_WISH_MAKERS})
        self.check_parameters(is_lesser, {**good, "maker": maker, "other": maker}, {
            **wrong, "maker": NO_WISH_MAKERS, "other": NO_WISH_MAKERS})

    def test_none_of_no_makers(self):
        for k in (0, 1, 7):
            self.assert_unusable("k", -1, maker_at, ROUND, "p", k)


if __name__ == "__main__":
    unittest.main()
