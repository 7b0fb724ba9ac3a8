import random
import unittest

from books import PAIR
from checks import Checks
from makerly import CHURCH, fault_of, instance_by_values, numeral
from onlygiven.bookchanges import instance_book
from onlygiven.bookclasses import Book
from onlygiven.counting import how_many, how_many_of
from onlygiven.fillings import Filling
from onlygiven.instances import instance_maker
from onlygiven.kindchanges import instance_of
from plainly import makers_of_size, random_kind, size_of_maker, wishes_of_all_sorts
from values import NO_BOOKS, NO_KINDS, NO_MAKERS, NO_NAMES

WISHES = wishes_of_all_sorts(56, 150, names=4) + wishes_of_all_sorts(561, 80, names=4, atoms=("p", "q"), size=5, order=3)

MADE = [(book, wish, maker) for book, wish in WISHES for size in range(1, 6) for maker in makers_of_size(book, wish, size)[:4]]


class InstancesTest(Checks):
    def test_example(self):
        self.assert_gives((0, ((1, ()),)), instance_maker, book=(), wish="p -> p", maker=(0, ()), atom="p", other="q -> q")

    def test_written_out(self):
        for book, wish, maker, atom, other, expected in (
            ((), "p -> p", (0, ()), "p", "q", (0, ())), ((), "p -> p", (0, ()), "r", "q -> q", (0, ())),
            ((), "p -> p", (0, ()), "p", "p -> p", (0, ((1, ()),))),
            ((), "p -> p", (0, ()), "p", "(q -> r) -> q -> p", (0, ((1, ((3, ()),)), (2, ())))),
            (PAIR, "q", ("f", (("a", ()), ("b", ()))), "q", "p -> r", ("f", (("a", ()), ("b", ()), (0, ())))),
            (PAIR, "q", ("f", (("a", ()), ("b", ()))), "p", "r -> s", ("f", (("a", ((0, ()),)), ("b", ((0, ()),))))),
            ((), CHURCH, numeral(2), "p", "q -> q", (0, ((0, ((1, ((4, ()),)), (3, ()))), (2, ())))),
        ):
            with self.subTest(wish=wish, maker=maker, atom=atom, other=other):
                self.assert_gives(expected, instance_maker, book=book, wish=wish, maker=maker, atom=atom, other=other)

    def test_at_random(self):
        rng = random.Random(562)
        greater = 0
        for book, wish, maker in MADE:
            for _ in range(3):
                atom, other = rng.choice("pqr"), random_kind(rng, 4, ("p", "q", "s"), 2)
                expected = instance_by_values(book, wish, maker, atom, other)
                self.assert_gives(expected, instance_maker, book=book, wish=wish, maker=maker, atom=atom, other=other)
                self.assertIsNone(fault_of(instance_book(book, atom, other), instance_of(wish, atom, other), expected))
                greater += size_of_maker(expected) > size_of_maker(maker)
        self.assertGreater(greater, 200)

    def test_unlike_makers_become_unlike(self):
        rng = random.Random(563)
        for book, wish in WISHES:
            makers = [maker for size in range(1, 6) for maker in makers_of_size(book, wish, size)[:15]]
            atom, other = rng.choice("pq"), random_kind(rng, 4, ("p", "q"), 2)
            found = {instance_maker(book, wish, maker, atom, other) for maker in makers}
            self.assertEqual(len(found), len(set(makers)))

    def test_numbers_get_no_less(self):
        rng = random.Random(564)
        for book, wish in WISHES:
            atom, other = rng.choice("pq"), random_kind(rng, 3, ("p", "q"), 2)
            before, after = how_many(book, wish), how_many(instance_book(book, atom, other), instance_of(wish, atom, other))
            self.assertTrue(after is None or (before is not None and before <= after))

    def test_plain_fillings_become_plain(self):
        """The instance of a head that is called with its variables is the head that is called with its variables."""
        rng = random.Random(565)
        for book, _ in WISHES[::2]:
            atom, other = rng.choice("pq"), random_kind(rng, 4, ("p", "q"), 2)
            behind = Filling.plain(instance_book(book, atom, other))
            for name, kind in book:
                maker = Filling.plain(book)[name]
                self.assert_is(instance_maker(book, kind, maker, atom, other), behind[name])

    def test_an_atom_for_an_atom(self):
        for book, wish, maker in MADE[::5]:
            for atom, other in (("p", "q"), ("q", "z"), ("p", "p"), ("z", "p")):
                self.assert_is(instance_maker(book, wish, maker, atom, other), maker)

    def test_one_after_the_other(self):
        """An instance of an instance, by an atom that is nowhere else, is that of both at once."""
        for book, wish, maker in MADE[::4]:
            first = instance_maker(book, wish, maker, "p", "q -> z")
            second = instance_maker(instance_book(book, "p", "q -> z"), instance_of(wish, "p", "q -> z"), first, "z", "q -> q")
            self.assert_is(second, instance_maker(book, wish, maker, "p", "q -> q -> q"))

    def test_counts_of_an_instance(self):
        self.assert_is(how_many_of((), instance_of("p -> p", "p", "q -> q"), 2), 1)

    def test_not_usable(self):
        self.check_parameters(
            instance_maker, {"book": PAIR, "wish": "q", "maker": ("f", (("a", ()), ("b", ()))), "atom": "p", "other": "q -> p"},
            {"book": NO_BOOKS + [Book(PAIR)], "wish": NO_KINDS, "maker": NO_MAKERS + [("a", ()), ("f", ()), (0, ())],
             "atom": NO_NAMES + ["p -> q"], "other": NO_KINDS})


if __name__ == "__main__":
    unittest.main()
