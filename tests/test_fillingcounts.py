import random
import unittest

from books import LIST, PAIR, ROUND
from checks import Checks
from makerly import CHURCH, filled
from onlygiven.fillingcounts import filling_for, gives_all, how_many_fillings, lacking_names
from onlygiven.fillings import Filling
from onlygiven.kindclasses import Kind
from plainly import has_maker, makers_of_size, number_of_makers, random_book, wishes_of_all_sorts
from values import NO_BOOKS

LOW = (("n", CHURCH),)


def product_of(numbers):
    product = 1
    for number in numbers:
        product *= number
    return product


class FillingCountsTest(Checks):
    def test_examples(self):
        self.assert_is([how_many_fillings(LOW, ()), gives_all(PAIR, ROUND), lacking_names(ROUND, PAIR)],
                       [None, True, ("a", "b")])

    def test_at_random(self):
        rng = random.Random(55)
        met = {}
        for _ in range(400):
            low, high = random_book(rng, 3, 4, ("p", "q", "r"), 2), random_book(rng, 5, 4, ("p", "q", "r"), 2)
            numbers = [number_of_makers(high, kind) for _, kind in low]
            number = 0 if 0 in numbers else None if None in numbers else product_of(numbers)
            lacking = tuple(name for (name, _), own in zip(low, numbers) if own == 0)
            met[number] = met.get(number, 0) + 1
            self.assert_gives(number, how_many_fillings, low=low, high=high)
            self.assert_gives(lacking, lacking_names, high=high, low=low)
            self.assert_gives(not lacking, gives_all, high=high, low=low)
            for filling in (filling_for(low, high), filling_for(low=low, high=high)):
                if lacking:
                    self.assertIsNone(filling)
                else:
                    self.assertIs(type(filling), Filling)
                    self.assertTrue(filling == Filling(low, high, tuple(filling)))
        self.assertGreater(min(met[number] for number in (0, 1, 2, None)), 4)

    def test_number_by_counting(self):
        rng = random.Random(551)
        met = set()
        for _ in range(300):
            low, high = random_book(rng, 2, 3, ("p", "q"), 1), random_book(rng, 4, 2, ("p", "q"), 1)
            number = how_many_fillings(low, high)
            if number is not None and number < 60:
                rows = [[maker for size in range(1, 9) for maker in makers_of_size(high, kind, size)] for _, kind in low]
                fillings = [()]
                for row in rows:
                    fillings = [(*filling, maker) for filling in fillings for maker in row]
                self.assertEqual(len([Filling(low, high, makers) for makers in fillings]), number)
                met.add(number)
        self.assertLess({0, 1, 2, 3, 4}, met)

    def test_gives_all_that_low_gives(self):
        rng = random.Random(552)
        met = {True: 0, False: 0}
        for low, wish in wishes_of_all_sorts(553, 300, names=3, atoms=("p", "q")):
            high = random_book(rng, 4, 4, ("p", "q"), 2)
            gives = gives_all(high, low)
            met[gives] += 1
            if gives and has_maker(low, wish):
                self.assertTrue(has_maker(high, wish))
            if not gives:
                self.assertTrue(all(not has_maker(high, dict(low)[name]) for name in lacking_names(high, low)))
        self.assertGreater(min(met.values()), 40)

    def test_written_out(self):
        for low, high, number in (
            ((), (), 1), ((), PAIR, 1), (PAIR, (), 0), (PAIR[:2], PAIR, 4), (PAIR, PAIR, 64), (ROUND, PAIR, 18),
            ((("x", "p"), ("y", CHURCH)), PAIR, None), ((("x", "r"), ("y", CHURCH)), PAIR, 0), (LIST, PAIR, 0),
        ):
            with self.subTest(low=low, high=high):
                self.assert_gives(number, how_many_fillings, low=low, high=high)

    def test_great_fillings(self):
        """What a filling that was found makes of a maker of four places may be great."""
        high = (("f", "p -> p -> p"), ("g", "q -> q -> p"), ("h", "r -> r -> q"), ("x", "r"))
        low = (("t", "p -> p -> p"), ("u", "p"))
        filling = filling_for(low, high)
        maker = ("t", (("t", (("u", ()), ("u", ()))), ("u", ())))
        self.assert_is(filling("p", maker), filled(low, high, list(filling), "p", maker))
        composed = Filling.plain(low) >> filling
        self.assert_is(composed("p", maker), filling("p", maker))

    def test_not_usable(self):
        for function in (how_many_fillings, filling_for):
            self.check_parameters(function, {"low": PAIR, "high": ROUND}, {
                "low": NO_BOOKS + [Kind("p")], "high": NO_BOOKS + [Kind("p")]})
        for function in (gives_all, lacking_names):
            self.check_parameters(function, {"high": ROUND, "low": PAIR}, {
                "high": NO_BOOKS + [Kind("p")], "low": NO_BOOKS + [Kind("p")]})


if __name__ == "__main__":
    unittest.main()
