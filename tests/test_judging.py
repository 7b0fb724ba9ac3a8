import unittest

from books import LIST, PAIR, PEIRCE, ROUND
from checks import Checks
from onlygiven.bookclasses import Book
from onlygiven.judging import can_make, smallest_maker
from plainly import has_maker, makers_of_size, order_key, size_of_maker, wanted_places, wishes_of_all_sorts
from values import NO_BOOKS, NO_KINDS

WISHES = (
    wishes_of_all_sorts(35, 500) + wishes_of_all_sorts(351, 150, names=6, order=3)
    + wishes_of_all_sorts(352, 100, names=3, atoms=("p", "q"), size=6, order=3)
)

# A wish that needs a variable at hand to be used in all orders.
LONG_WAY = (("f", "(p -> q) -> (q -> p) -> r"), ("g", "((r -> p) -> q) -> q"), ("h", "r -> p"))


class JudgingTest(Checks):
    def test_example(self):
        self.assert_is([
            can_make(ROUND, "p"), smallest_maker(PAIR, "q"), smallest_maker((), "p -> p -> p"), smallest_maker((), PEIRCE),
        ], [False, ("f", (("a", ()), ("a", ()))), (0, ()), None])

    def test_written_out(self):
        for book, wish, expected in (
            ((), "p", None), ((), "p -> p", (0, ())), ((), "p -> q", None), ((), "q -> p -> p", (1, ())),
            (PAIR, "p", ("a", ())), (PAIR, "p -> p", ("a", ())), (PAIR, "r", None), (PAIR, "r -> r", (0, ())),
            (ROUND, "p", None), (ROUND, "q -> p", ("g", ((0, ()),))), (ROUND, "p -> p", (0, ())),
            (LIST, "s", ("nil", ())), (LIST, "s -> s", ("nil", ())), (LIST, "p", None),
            ((), "(p -> p) -> p -> p", (1, ())), ((), "((p -> p) -> p) -> p", (0, ((1, ()),))),
            ((), "((p -> q) -> p) -> (p -> q) -> q", (1, ((0, ((1, ((2, ()),)),)),))),
            ((), "((((p -> q) -> p) -> p) -> q) -> q", (0, ((1, ((0, ((2, ()),)),)),))),
            ((("f", "(p -> q -> r) -> s"),), "r -> s", ("f", ((0, ()),))),
            ((("f", "p -> q"), ("g", "r -> q"), ("x", "p"), ("y", "r")), "q", ("f", (("x", ()),))),
            ((("f", "p -> p -> q"), ("g", "r -> q"), ("x", "p"), ("y", "r")), "q", ("g", (("y", ()),))),
        ):
            with self.subTest(book=book, wish=wish):
                self.assert_gives(expected, smallest_maker, book=book, wish=wish)
                self.assert_gives(expected is not None, can_make, book=book, wish=wish)

    def test_can_make_at_random(self):
        met = {True: 0, False: 0}
        for book, wish in WISHES:
            expected = has_maker(book, wish)
            met[expected] += 1
            self.assert_gives(expected, can_make, book=book, wish=wish)
            self.assertIs(smallest_maker(book, wish) is not None, expected)
        self.assertGreater(min(met.values()), 100)

    def test_smallest_maker_at_random(self):
        sizes = set()
        for book, wish in WISHES:
            maker = smallest_maker(book, wish)
            if maker is None:
                continue
            wanted_places(book, wish, maker)
            size = size_of_maker(maker)
            if size <= 7:
                for less in range(size):
                    self.assertEqual(makers_of_size(book, wish, less), [], (book, wish))
                self.assert_gives(min(makers_of_size(book, wish, size), key=order_key), smallest_maker, book=book, wish=wish)
                sizes.add(size)
        self.assertLess({1, 2, 3, 4, 5}, sizes)

    def test_more_names_lose_no_maker(self):
        for book, wish in WISHES[:150]:
            if can_make(book, wish):
                for name in ("c", "zc"):
                    self.assertTrue(can_make(tuple(sorted((*book, (name, "q -> p")))), wish))
            for k in range(len(book)):
                if can_make(book[:k] + book[k + 1:], wish):
                    self.assertTrue(can_make(book, wish))

    def test_a_long_way(self):
        for wish in ("q", "r", "p", "(q -> p) -> r", "p -> r"):
            self.assertEqual(can_make(LONG_WAY, wish), has_maker(LONG_WAY, wish))

    def test_at_the_limits(self):
        """Eight names, four atoms, and a chain of heads each of which doubles what is below it."""
        book = (("a", "s"), ("b", "s -> s -> r"), ("c", "r -> r -> q"), ("d", "q -> q -> p"), ("e", "p -> p"),
                ("f", "((p -> q) -> r) -> s"), ("g", "((q -> r) -> s) -> p"), ("h", "(r -> s -> p) -> (s -> q) -> r"))
        maker = smallest_maker(book, "(p -> s) -> (s -> p) -> p")
        self.assert_is(maker, ("g", (("a", ()),)))
        maker = smallest_maker(book[:4], "p")
        self.assertEqual(size_of_maker(maker), 15)
        wanted_places(book, "p", maker)

    def test_deep_makers(self):
        """A chain through many atoms, beyond the limits."""
        names = [a + b for a in "abcdefgh" for b in "abcdefgh"]
        book = tuple((f"f{low}", f"{low} -> {high}") for low, high in zip(names, names[1:]))
        maker = smallest_maker(book, "aa -> hh")
        self.assertEqual(size_of_maker(maker), 64)
        wanted_places(book, "aa -> hh", maker)

    def test_not_usable(self):
        for function in (can_make, smallest_maker):
            self.check_parameters(function, {"book": PAIR, "wish": "q"}, {
                "book": NO_BOOKS + [Book(PAIR)], "wish": NO_KINDS})


if __name__ == "__main__":
    unittest.main()
