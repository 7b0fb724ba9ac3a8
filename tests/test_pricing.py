import random
import unittest

from books import LIST, PAIR, ROUND
from checks import Checks
from makerly import fault_of
from onlygiven.bookclasses import Book
from onlygiven.errors import NotMade
from onlygiven.judging import can_make
from onlygiven.pricechecker import lets_price
from onlygiven.pricing import cheapest_maker, least_price, price_paper
from papers import price_fault, price_of
from plainly import makers_of_size, size_of_maker, wishes_of_all_sorts
from values import ANY_VALUES, NO_BOOKS, NO_KINDS

MARKET = (("a", "p"), ("b", "r"), ("f", "p -> q"), ("g", "r -> q"))
PRICES = (("g", 1), ("f", 5), ("a", 1), ("b", 9))

MOST_SIZE = 7


def random_prices(rng, book, most=6):
    """Prices of some of the names, in any order."""
    names = [name for name, _ in book if rng.random() < 0.8]
    rng.shuffle(names)
    return tuple((name, rng.choice((0, 0, 1, 2, rng.randrange(most), rng.randrange(10 ** 9)))) for name in names)


def cases(seed, count, **more):
    rng = random.Random(seed)
    return [(book, wish, random_prices(rng, book)) for book, wish in wishes_of_all_sorts(seed, count, **more)]


CASES = cases(45, 250, names=5) + cases(451, 120, names=6, order=3) + cases(
    452, 60, names=4, atoms=("p", "q"), size=6, order=3)

NO_PRICES = [thing for thing in ANY_VALUES if thing != ()] + [
    (("a", -1),), (("a", True),), (("a", "1"),), (("a", None),), (("z", 1),), (("a", 1), ("a", 1)), (("a", 1), ("a", 2)),
    [("a", 1)], (["a", 1],), (("a",),), (("a", 1, 1),), ("a", 1), (("p", 1),), {"a": 1}, ((("a",), 1),), ((["a"], 1),),
    (("a", 1), None), (("a", (1,)),), ((0, 1),),
]


class PricingTest(Checks):
    def test_example(self):
        self.assert_is([cheapest_maker(MARKET, "q", PRICES), least_price(MARKET, "(p -> q) -> p -> q", PRICES)],
                       [("f", (("a", ()),)), 0])

    def test_written_out(self):
        for book, wish, prices, price in (
            (MARKET, "q", PRICES, 6), (MARKET, "q", (), 0), (MARKET, "q", (("g", 7),), 0), (MARKET, "r -> q", PRICES, 1),
            (MARKET, "p -> q", PRICES, 5), (MARKET, "p", PRICES, 1), (PAIR, "q", (("a", 3), ("b", 2), ("f", 4)), 8),
            (PAIR, "p -> q", (("a", 3), ("b", 2), ("f", 4)), 4), (LIST, "s", (("nil", 10 ** 9),), 10 ** 9),
            (LIST, "p -> s", (("nil", 8), ("cons", 1)), 8), ((), "p -> p", (), 0),
            # What is dear is not bought twice where a copy can be handed on.
            ((("f", "(p -> q) -> q"), ("g", "p -> p -> q"), ("x", "p")), "q", (("x", 5), ("f", 1), ("g", 1)), 2),
        ):
            with self.subTest(book=book, wish=wish, prices=prices):
                self.assert_gives(price, least_price, book=book, wish=wish, prices=prices)

    def test_least_prices_by_going_through_all(self):
        met = 0
        for book, wish, prices in CASES:
            makers = [maker for size in range(1, MOST_SIZE + 1) for maker in makers_of_size(book, wish, size)]
            if not can_make(book, wish):
                self.assertEqual(makers, [])
                continue
            price = least_price(book, wish, prices)
            self.assert_gives(price, least_price, book=book, wish=wish, prices=prices)
            for maker in (cheapest_maker(book, wish, prices), cheapest_maker(book=book, wish=wish, prices=prices)):
                self.assertIsNone(fault_of(book, wish, maker))
                self.assertEqual(price_of(prices, maker), price)
            self.assertLessEqual(price, min((price_of(prices, maker) for maker in makers), default=price))
            if size_of_maker(maker) <= MOST_SIZE:
                self.assertEqual(price, min(price_of(prices, maker) for maker in makers))
                met += 1
        self.assertGreater(met, 150)

    def test_papers(self):
        met = 0
        for book, wish, prices in CASES:
            if can_make(book, wish):
                for paper in (price_paper(book, wish, prices), price_paper(book=book, wish=wish, prices=prices)):
                    self.assertIsNone(price_fault(book, wish, prices, paper), (book, wish, prices, paper))
                    self.assertEqual(price_of(prices, paper[0]), least_price(book, wish, prices))
                self.assert_gives(
                    least_price(book, wish, prices), lets_price, book=book, wish=wish, prices=prices, thing=paper)
                met += 1
        self.assertGreater(met, 150)

    def test_no_maker(self):
        for book, wish, prices in CASES + [(ROUND, "p", (("f", 1),)), ((), "p", ())]:
            if not can_make(book, wish):
                for function in (least_price, cheapest_maker, price_paper):
                    self.assert_raises(NotMade, {"wish": wish}, function, book, wish, prices)
                    self.assert_raises(NotMade, {"wish": wish}, function, book=book, wish=wish, prices=prices)

    def test_free_rounds(self):
        """Rounds that cost nothing are not gone through for ever."""
        book = (("f", "p -> q"), ("g", "q -> p"), ("x", "p"), ("y", "q"))
        self.assert_is(cheapest_maker(book, "p", (("x", 2), ("y", 1))), ("g", (("y", ()),)))
        self.assert_is(cheapest_maker(book, "p", (("x", 1), ("y", 1))), ("x", ()))
        self.assert_is(cheapest_maker(book, "p", ()), ("x", ()))

    def test_more_names_do_not_raise_the_price(self):
        rng = random.Random(49)
        for book, wish, prices in CASES[:150]:
            if can_make(book, wish):
                more = tuple(sorted((*book, ("c", rng.choice(("p", "q -> p", "(p -> q) -> r"))))))
                self.assertLessEqual(least_price(more, wish, (*prices, ("c", rng.randrange(3)))), least_price(book, wish, prices))

    def test_cheaper_names(self):
        for book, wish, prices in CASES[:150]:
            if can_make(book, wish):
                cheaper = tuple((name, number // 2) for name, number in prices)
                self.assertLessEqual(least_price(book, wish, cheaper), least_price(book, wish, prices))
                self.assert_is(least_price(book, wish, ()), 0)
                self.assert_is(least_price(book, wish, prices[::-1]), least_price(book, wish, prices))

    def test_not_usable(self):
        for function in (least_price, cheapest_maker, price_paper):
            self.check_parameters(function, {"book": MARKET, "wish": "q", "prices": PRICES}, {
                "book": NO_BOOKS + [Book(MARKET)], "wish": NO_KINDS, "prices": NO_PRICES})
            # The prices are looked at before it is asked whether there is a maker.
            self.assert_unusable("prices", -1, function, ROUND, "p", None)


if __name__ == "__main__":
    unittest.main()
