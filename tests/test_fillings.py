import random
import unittest

from books import PAIR
from checks import Checks
from makerly import CHURCH, cases, fault_of, filled, numeral, random_filling
from onlygiven.bookclasses import Book
from onlygiven.fillings import Filling
from onlygiven.kindclasses import Kind
from plainly import random_book, size_of_maker
from values import ANY_VALUES, NO_BOOKS, NO_KINDS, NO_MAKERS

LOW = (("n", CHURCH),)
TWO = numeral(2)

# Greater makers are not filled once more.
MOST_SIZE = 10

CASES = cases(54, 250) + cases(541, 120, order=3) + cases(542, 60, ("p",), 3)


class FillingTest(Checks):
    def shows(self, filling, low, high, makers):
        """A Filling of exactly this class, with all that it tells of itself."""
        self.assertIs(type(filling), Filling)
        self.assert_is([len(filling), list(filling), [maker for maker in filling]], [len(low), list(makers), list(makers)])
        for (name, _), maker in zip(low, makers):
            self.assert_is(filling[name], maker)
        self.assertIs(filling == Filling(low, high, makers), True)

    def test_examples(self):
        filling = Filling(LOW, (), (TWO,))
        self.assert_is(filling(CHURCH, ("n", ((0, ((2, ()),)), (1, ())))), TWO)
        self.assert_is([Filling.plain(PAIR)["f"], Filling.plain(LOW) >> filling == filling],
                       [("f", ((0, ()), (1, ()))), True])

    def test_made(self):
        for low, high, makers, _, _ in CASES:
            self.shows(Filling(low, high, makers), low, high, makers)
            self.shows(Filling(low=low, high=high, makers=makers), low, high, makers)
        self.shows(Filling((), PAIR, ()), (), PAIR, ())

    def test_applied_at_random(self):
        greater = 0
        for low, high, makers, wish, maker in CASES:
            filling = Filling(low, high, makers)
            expected = filled(low, high, makers, wish, maker)
            self.assertIsNone(fault_of(high, wish, expected))
            self.assert_is(filling(wish, maker), expected)
            self.assert_is(filling(wish=wish, maker=maker), expected)
            greater += size_of_maker(expected) > size_of_maker(maker)
            self.shows(filling, low, high, makers)
        self.assertGreater(greater, 30)

    def test_numerals(self):
        """What is put in is called, and what it is called with is called in turn: this multiplies, and raises to powers."""
        book = (("m", CHURCH), ("n", CHURCH))
        times = ("m", (("n", ((0, ((3, ()),)), (2, ()))), (1, ())))
        for m in range(5):
            for n in range(5):
                filling = Filling(book, (), (numeral(m), numeral(n)))
                self.assert_is(filling(CHURCH, times), numeral(m * n))
        filling = Filling(LOW, (), (numeral(3),))
        nested = ("n", (("n", (("n", ((0, ((4, ()),)), (3, ()))), (2, ()))), (1, ())))
        self.assert_is(filling(CHURCH, nested), numeral(27))

    def test_composed_at_random(self):
        rng = random.Random(57)
        met = 0
        for low, high, makers, wish, maker in CASES:
            top = random_book(rng, 4, 4, ("p", "q"), 2)
            others = random_filling(rng, high, top)
            if others is None or size_of_maker(filled(low, high, makers, wish, maker)) > MOST_SIZE:
                continue
            met += 1
            first, second = Filling(low, high, makers), Filling(high, top, others)
            both = first >> second
            self.shows(both, low, top, tuple(filled(high, top, others, kind, own) for (_, kind), own in zip(low, makers)))
            self.assert_is(both(wish, maker), second(wish, first(wish, maker)))
            self.shows(first, low, high, makers)
            self.shows(second, high, top, others)
        self.assertGreater(met, 100)

    def test_three_composed(self):
        rng = random.Random(571)
        met = 0
        for low, high, makers, _, _ in CASES:
            books = [low, high, random_book(rng, 3, 4, ("p", "q"), 2), random_book(rng, 3, 3, ("p", "q"), 2)]
            rows = [makers, random_filling(rng, books[1], books[2]), random_filling(rng, books[2], books[3])]
            if None not in rows:
                met += 1
                a, b, c = [Filling(books[k], books[k + 1], rows[k]) for k in range(3)]
                self.assertTrue((a >> b) >> c == a >> (b >> c))
        self.assertGreater(met, 15)

    def test_plain(self):
        for low, high, makers, wish, maker in CASES:
            plain = Filling.plain(low)
            self.assert_is(plain(wish, maker), maker)
            self.assertTrue(plain == Filling.plain(book=low))
            filling = Filling(low, high, makers)
            self.assertTrue(plain >> filling == filling)
            self.assertTrue(filling >> Filling.plain(high) == filling)
            for (name, kind), own in zip(low, plain):
                self.assertIsNone(fault_of(low, kind, own))
                self.assertEqual(own, filled(low, low, list(plain), kind, own))
                self.assertEqual(own[0], name)

    def test_plain_written_out(self):
        book = (("f", "((p -> q) -> p) -> (q -> p) -> q"), ("x", "p"))
        self.assert_is(list(Filling.plain(book)), [
            ("f", ((0, ((2, ((3, ()),)),)), (1, ((2, ()),)))), ("x", ())])

    def test_likeness_is_kept(self):
        """A maker is alike to what the plain filling makes of it, and so is what becomes of both."""
        for low, high, makers, wish, maker in CASES[:100]:
            filling = Filling(low, high, makers)
            self.assert_is(filling(wish, maker), filling(wish, (Filling.plain(low) >> Filling.plain(low))(wish, maker)))

    def test_equal(self):
        fillings = [Filling(LOW, (), (TWO,)), Filling(LOW, (), (numeral(1),)), Filling(LOW, PAIR, (TWO,)),
                    Filling((("m", CHURCH),), (), (TWO,)), Filling((), (), ()), Filling((), PAIR, ())]
        for j, one in enumerate(fillings):
            for k, other in enumerate(fillings):
                self.assertIs(one == other, j == k)
                self.assertIs(one != other, j != k)
        for thing in ANY_VALUES + [Book(), Kind("p"), (LOW, (), (TWO,)), (TWO,), NotImplemented]:
            self.assertIs(fillings[0] == thing, False)
            self.assertIs(thing == fillings[0], False)

    def test_any_value_as_a_name(self):
        filling = Filling(LOW, PAIR, (TWO,))
        for thing in ANY_VALUES + [Book(), Kind("n"), "a", "m", "nn", 0, slice(0, 1), filling, ("n",)]:
            self.assert_unusable("name", -1, lambda: filling[thing])

    def test_what_cannot_be_composed(self):
        filling = Filling(LOW, PAIR, (TWO,))
        for thing in ANY_VALUES + [Book(PAIR), Kind("n"), filling, Filling.plain(PAIR[:2]), Filling.plain(LOW), Filling((), (), ())]:
            self.assert_unusable("other", -1, lambda: filling >> thing)
        self.assertTrue(filling >> Filling.plain(PAIR) == filling)

    def test_not_usable(self):
        no_makers = ANY_VALUES + [(maker,) for maker in NO_MAKERS] + [
            (), (TWO, TWO), [TWO], TWO, (("n", ()),), ((0, ()),), ((2, ()),), ((0, ((2, ()),)),), ((1, (TWO,)),), (None,)]
        self.check_parameters(Filling, {"low": LOW, "high": (), "makers": (TWO,)}, {
            "low": NO_BOOKS + [Kind("p")], "high": NO_BOOKS + [Kind("p")], "makers": no_makers})
        self.assert_unusable("makers", -1, Filling, PAIR, PAIR, (("a", ()), ("b", ())))
        self.assert_unusable("makers", -1, Filling, PAIR, PAIR, (("a", ()), ("b", ()), ("f", ())))
        self.assert_unusable("makers", -1, Filling, PAIR, PAIR, (("b", ()), ("f", ((0, ()), (1, ()))), ("a", ())))
        for thing in NO_BOOKS + [Book(PAIR)]:
            self.assert_unusable("book", -1, Filling.plain, thing)
            self.assert_unusable("book", -1, Filling.plain, book=thing)

    def test_not_usable_when_applied(self):
        filling = Filling(LOW, (), (TWO,))
        self.check_parameters(filling, {"wish": CHURCH, "maker": TWO}, {
            "wish": NO_KINDS, "maker": NO_MAKERS + [(0, ()), ("n", ()), ("m", (TWO, TWO)), (2, ()), ("n", ((1, ()), (0, ())))]})

    def test_never_changes(self):
        filling = same = Filling(LOW, (), (TWO,))
        with self.assertRaises(TypeError):
            filling["n"] = TWO
        filling >>= Filling.plain(())
        self.shows(same, LOW, (), (TWO,))


if __name__ == "__main__":
    unittest.main()
