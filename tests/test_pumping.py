import unittest

from books import LIST, PAIR, PEIRCE
from checks import Checks
from makerly import fault_of, part_of, places_in, with_part_at
from onlygiven.bookclasses import Book
from onlygiven.counting import count_paper, how_many
from onlygiven.makers import lets_maker
from onlygiven.pumping import pumped
from plainly import makers_of_size, size_of_maker, wanted_places, wishes_of_all_sorts
from values import NO_BOOKS, NO_KINDS, NO_MAKERS, NO_NUMBERS, NO_PLACES

OPENING, FIRST = "((p -> p) -> p) -> p", (0, ((1, ()),))
CONS = ("cons", ((0, ()), ("nil", ())))

WISHES = (
    wishes_of_all_sorts(43, 150, names=4) + wishes_of_all_sorts(431, 100, names=5, order=3)
    + wishes_of_all_sorts(432, 60, names=3, atoms=("p", "q"), size=6, order=3)
)

MADE = [(book, wish, maker) for book, wish in WISHES for size in range(2, 8) for maker in makers_of_size(book, wish, size)[:3]]


def raised(part, floor, by):
    head, makers = part
    return head + by if isinstance(head, int) and head >= floor else head, tuple(raised(one, floor, by) for one in makers)


def pumped_plainly(book, wish, maker, place, deeper, times):
    """From the inside: the old body first, then one copy around the other."""
    places = wanted_places(book, wish, maker)
    floor, step = len(places[place][1]), len(places[deeper][1]) - len(places[place][1])
    part = raised(part_of(maker, deeper), floor, times * step)
    for k in range(times, 0, -1):
        part = with_part_at(raised(part_of(maker, place), floor, k * step), deeper[len(place):], part)
    return with_part_at(maker, deeper, part)


def pairs_of(book, wish, maker):
    """Each place with each place below it, and whether the same atom is wanted there."""
    places = wanted_places(book, wish, maker)
    return [(place, deeper, places[place][0] == places[deeper][0]) for place in places for deeper in places
            if len(deeper) > len(place) and deeper[:len(place)] == place]


class PumpingTest(Checks):
    def test_example(self):
        self.assert_is(
            [pumped((), OPENING, FIRST, (), (0,), 1), pumped((), OPENING, FIRST, (), (0,), 2)],
            [(0, ((0, ((2, ()),)),)), (0, ((0, ((0, ((3, ()),)),)),))])

    def test_written_out(self):
        cons = CONS
        for times in range(5):
            self.assert_gives(cons, pumped, book=LIST, wish="p -> s", maker=CONS, place=(), deeper=(1,), times=times)
            cons = ("cons", ((0, ()), cons))
        # Variables that are opened below the place are raised in the copies, others are not.
        wish, maker = "p -> ((p -> p) -> p) -> p", (1, ((1, ((2, ()),)),))
        self.assert_gives((1, ((1, ((1, ((3, ()),)),)),)), pumped, book=(), wish=wish, maker=maker, place=(), deeper=(0,), times=1)
        self.assert_gives((1, ((1, ((0, ()),)),)), pumped, book=(), wish=wish, maker=(1, ((0, ()),)), place=(), deeper=(0,), times=1)

    def test_at_random(self):
        met = opened = 0
        for book, wish, maker in MADE[::2]:
            for place, deeper, same in pairs_of(book, wish, maker):
                if not same:
                    self.assert_unusable("deeper", -1, pumped, book, wish, maker, place, deeper, 1)
                    continue
                sizes = []
                for times in (0, 1, 2, 3, 5):
                    expected = pumped_plainly(book, wish, maker, place, deeper, times)
                    self.assert_gives(
                        expected, pumped, book=book, wish=wish, maker=maker, place=place, deeper=deeper, times=times)
                    self.assertIsNone(fault_of(book, wish, expected))
                    sizes.append(lets_maker(book, wish, expected))
                self.assertEqual(sizes[0], size_of_maker(maker))
                # With times one more the size grows by a fixed number.
                step = size_of_maker(part_of(maker, place)) - size_of_maker(part_of(maker, deeper))
                self.assertGreater(step, 0)
                self.assertEqual(sizes, [sizes[0] + times * step for times in (0, 1, 2, 3, 5)])
                met += 1
                places = wanted_places(book, wish, maker)
                opened += len(places[place][1]) < len(places[deeper][1])
        self.assertGreater(met, 150)
        self.assertGreater(opened, 25)

    def test_all_places_that_are_not_below(self):
        for book, wish, maker in MADE[::10]:
            places = places_in(maker)
            for place in places:
                for deeper in places:
                    if len(deeper) <= len(place) or deeper[:len(place)] != place:
                        self.assert_unusable("deeper", -1, pumped, book, wish, maker, place, deeper, 1)

    def test_papers_are_pumped(self):
        """What a paper of endlessly many shows is a maker that can be pumped, and the other way round."""
        met = 0
        for book, wish in WISHES:
            if how_many(book, wish) is None:
                word, maker, place, deeper = count_paper(book, wish)
                self.assertEqual(word, "endless")
                made = [pumped(book, wish, maker, place, deeper, times) for times in range(4)]
                self.assertEqual(len(set(made)), 4)
                self.assertTrue(all(fault_of(book, wish, one) is None for one in made))
                met += 1
        self.assertGreater(met, 50)

    def test_pumped_again(self):
        """With times one more is what pumping at the copy makes."""
        for book, wish, maker in MADE[::7]:
            for place, deeper, same in pairs_of(book, wish, maker):
                if same:
                    once = pumped(book, wish, maker, place, deeper, 1)
                    below = deeper + deeper[len(place):]
                    self.assert_is(pumped(book, wish, once, deeper, below, 1), pumped(book, wish, maker, place, deeper, 2))

    def test_many_times(self):
        maker = pumped((), OPENING, FIRST, (), (0,), 500)
        self.assertEqual(lets_maker((), OPENING, maker), 502)
        maker = pumped((), OPENING, maker, (), (0,), 1)
        self.assertEqual(lets_maker((), OPENING, maker), 503)

    def test_not_usable(self):
        good = {"book": LIST, "wish": "p -> s", "maker": CONS, "place": (), "deeper": (1,), "times": 1}
        self.check_parameters(pumped, good, {
            "book": NO_BOOKS + [Book(LIST)], "wish": NO_KINDS, "maker": NO_MAKERS + [("cons", ((0, ()), (0, ()))), (0, ())],
            "place": NO_PLACES + [(2,), (0, 0), (1, 0)], "deeper": NO_PLACES + [(), (0,), (2,), (1, 0), (1, 1)],
            "times": NO_NUMBERS})
        self.assert_unusable("deeper", -1, pumped, LIST, "p -> s", CONS, (1,), (1,), 1)
        self.assert_unusable("deeper", -1, pumped, LIST, "p -> s", CONS, (1,), (), 1)
        self.assert_unusable("deeper", -1, pumped, PAIR, "q", ("f", (("a", ()), ("b", ()))), (), (0,), 0)
        self.assert_unusable("maker", -1, pumped, (), PEIRCE, (0, ()), (), (0,), 0)


if __name__ == "__main__":
    unittest.main()
