import random
import unittest

from checks import Checks
from onlygiven.bookclasses import Book
from onlygiven.errors import InvalidPaper
from onlygiven.judging import can_make
from onlygiven.pricechecker import lets_price
from onlygiven.pricing import least_price, price_paper
from papers import changed_paper, price_fault, price_of
from plainly import kind_of_tree, makers_of_size, tree_of, trees_within
from test_pricing import CASES, MARKET, NO_PRICES, PRICES
from values import ANY_VALUES, NO_BOOKS, NO_KINDS, NO_MAKERS

GOOD = (("f", (("a", ()),)), ((((), "p"), 1), (((), "q"), 6), (((), "r"), 9)))

WORDS = {"shape", "head", "makers", "stand", "first", "step", "price"}


class PriceCheckerTest(Checks):
    def judged(self, book, wish, prices, thing):
        fault = price_fault(book, wish, prices, thing)
        if fault is None:
            self.assert_gives(price_of(prices, thing[0]), lets_price, book=book, wish=wish, prices=prices, thing=thing)
        else:
            self.assert_raises(InvalidPaper, dict(zip(("word", "at"), fault)), lets_price, book, wish, prices, thing)
            self.assert_raises(
                InvalidPaper, dict(zip(("word", "at"), fault)), lets_price, book=book, wish=wish, prices=prices, thing=thing)
        return fault and fault[0]

    def not_accepted(self, word, at, thing):
        self.assertEqual(price_fault(MARKET, "q", PRICES, thing), (word, at))
        self.judged(MARKET, "q", PRICES, thing)

    def test_example(self):
        paper = (("f", (("a", ()),)), ((((), "p"), 1), (((), "q"), 6), (((), "r"), 4)))
        self.assert_raises(InvalidPaper, {"word": "step", "at": 1}, lets_price, MARKET, "q", PRICES, paper)

    def test_written_out(self):
        maker, rows = GOOD
        p, q, r = rows
        self.assert_gives(6, lets_price, book=MARKET, wish="q", prices=PRICES, thing=GOOD)
        for word, at, thing in (
            ("shape", -1, (maker,)), ("shape", -1, [maker, rows]), ("shape", -1, (maker, list(rows))), ("shape", -1, None),
            ("shape", -1, (("f", ["a"]), rows)), ("shape", -1, (maker, (*rows, ((), 3)))), ("shape", -1, (maker, (p, q, (r[0], True)))),
            ("shape", -1, (maker, (p, q, (r[0], -1)))), ("shape", -1, (maker, (p, q, ((("q", "p"), "r"), 1)))),
            ("head", (), (("a", ()), rows)), ("makers", (), (("f", ()), rows)), ("head", (0,), (("f", (("b", ()),)), ())),
            ("stand", 0, (maker, ((((), "zz"), 1), p, q, r))), ("stand", 3, (maker, (p, q, r, ((("p -> p",), "q"), 1)))),
            ("stand", 2, (maker, (p, r, q))), ("stand", 1, (maker, (p, p, q, r))), ("stand", 2, (maker, (p, q, (q[0], None), r))),
            ("first", -1, (maker, (p, r))), ("first", -1, (maker, (p, (q[0], None), r))), ("first", -1, (maker, ())),
            ("step", 0, (maker, ((p[0], 2), q, r))), ("step", 0, (maker, ((p[0], None), q, r))), ("step", 1, (maker, (p, q))),
            ("step", 2, (maker, (p, q, (r[0], 10)))), ("step", 1, (maker, (p, (q[0], 7), r))), ("step", 2, (maker, (p, q, (r[0], None)))),
            ("price", -1, (("g", (("b", ()),)), rows)), ("price", -1, (maker, ((p[0], 0), (q[0], 5), r))),
        ):
            with self.subTest(word=word, at=at, thing=thing):
                self.not_accepted(word, at, thing)
        # Less than what is right is right, too, in rows that the price does not hang on.
        self.assert_gives(6, lets_price, book=MARKET, wish="q", prices=PRICES, thing=(maker, (p, q, (r[0], 5))))
        self.not_accepted("step", 1, (maker, (p, q, (r[0], 4))))

    def test_rows_with_none(self):
        """What cannot be made: a row with None, beside which other parts do not count."""
        book = (("f", "p -> r -> q"), ("g", "r -> r"), ("x", "p"), ("y", "q"))
        paper = (("y", ()), ((((), "q"), 5), (((), "r"), None)))
        self.assert_gives(5, lets_price, book=book, wish="q", prices=(("y", 5),), thing=paper)
        paper = (("y", ()), ((((), "q"), 5), (((), "r"), 3)))
        self.assert_raises(InvalidPaper, {"word": "step", "at": 0}, lets_price, book, "q", (("y", 5),), paper)
        paper = (("y", ()), ((((), "p"), None), (((), "q"), 5), (((), "r"), None)))
        self.assert_raises(InvalidPaper, {"word": "step", "at": 0}, lets_price, book, "q", (("y", 5),), paper)

    def test_any_value(self):
        for thing in ANY_VALUES + NO_MAKERS + [Book(), (Book(), ()), (GOOD[0], Book()), (GOOD[0], (Book(),))]:
            for paper in (thing, (thing, GOOD[1]), (GOOD[0], thing), (GOOD[0], (thing,)), (GOOD[0], (*GOOD[1], thing)),
                          (GOOD[0], ((thing, 3),)), (GOOD[0], ((((), "p"), thing),)), (GOOD[0], (((thing, "p"), 1),))):
                self.judged(MARKET, "q", PRICES, paper)

    def test_changed_papers(self):
        """One change, and two, at drawn places."""
        rng = random.Random(47)
        met, accepted = {}, 0
        for book, wish, prices in CASES:
            if not can_make(book, wish):
                continue
            paper = price_paper(book, wish, prices)
            makers = [maker for size in range(1, 5) for maker in makers_of_size(book, wish, size)[:10]] + [paper[0]]
            kinds = sorted({kind_of_tree(tree) for kind in [*dict(book).values(), wish] for tree in trees_within(tree_of(kind))})
            heads = [name for name, _ in book] + [0, 1, 2]
            for _ in range(12):
                changed = paper
                for _ in range(rng.choice((1, 1, 2))):
                    if price_fault(book, wish, prices, changed) is None or changed is paper:
                        changed = changed_paper(rng, changed, makers, kinds + ["p -> r -> z"], ("p", "q", "r"), heads)
                word = self.judged(book, wish, prices, changed)
                met[word] = met.get(word, 0) + 1
                if word is None:
                    # What a checker accepts is true, whoever wrote it.
                    self.assertEqual(lets_price(book, wish, prices, changed), least_price(book, wish, prices))
                    accepted += changed != paper
        self.assertEqual(set(met), WORDS | {None})
        self.assertGreater(min(met.values()), 10)
        self.assertGreater(accepted, 50)

    def test_other_prices(self):
        """Papers of other prices, wishes and books."""
        rng = random.Random(471)
        good = [case for case in CASES if can_make(case[0], case[1])]
        for book, wish, prices in good[::2]:
            paper = price_paper(book, wish, prices)
            others = tuple((name, rng.randrange(4)) for name, _ in book)
            self.judged(book, wish, others, paper)
            _, other, _ = rng.choice(good)
            self.judged(book, other, prices, paper)
            self.judged(book[1:], wish, tuple(pair for pair in prices if pair[0] in dict(book[1:])), paper)

    def test_not_usable(self):
        self.check_parameters(lets_price, {"book": MARKET, "wish": "q", "prices": PRICES, "thing": None}, {
            "book": NO_BOOKS + [Book(MARKET)], "wish": NO_KINDS, "prices": NO_PRICES})


if __name__ == "__main__":
    unittest.main()
