import inspect
import unittest

from books import LIST, PAIR, PEIRCE
from checks import Checks
from makerly import changed_makers, fault_of, part_of, places_in
from onlygiven.bookclasses import Book
from onlygiven.errors import InvalidPaper
from onlygiven.makers import (
    lets_maker, maker_levels, maker_size, names_in, part_at, places_of, uses_of, wanted_at,
)
from plainly import heads_in, kind_of_tree, makers_of_size, size_of_maker, wanted_places, wishes_of_all_sorts
from values import ANY_VALUES, NO_BOOKS, NO_KINDS, NO_MAKERS, NO_NAMES, NO_PLACES, nested

CONS = ("cons", ((0, ()), ("nil", ())))

WISHES = wishes_of_all_sorts(22, 120, names=5) + wishes_of_all_sorts(221, 60, names=4, order=3)

# Makers with their books and wishes, up to some size and number.
MADE = [(book, wish, maker) for book, wish in WISHES
        for size in range(1, 6) for maker in makers_of_size(book, wish, size)[:6]]

DEEP = (0, ())
for _ in range(1500):
    DEEP = ("f", (DEEP,))


class LetsMakerTest(Checks):
    def judged(self, book, wish, thing):
        fault = fault_of(book, wish, thing)
        if fault is None:
            self.assert_gives(size_of_maker(thing), lets_maker, book=book, wish=wish, thing=thing)
        else:
            self.refused_for(*fault, book, wish, thing)
        return fault and fault[0]

    def refused_for(self, word, place, book, wish, thing):
        self.assert_raises(InvalidPaper, {"word": word, "at": place}, lets_maker, book, wish, thing)
        self.assert_raises(InvalidPaper, {"word": word, "at": place}, lets_maker, book=book, wish=wish, thing=thing)

    def test_examples(self):
        self.assert_gives(3, lets_maker, book=LIST, wish="p -> s", thing=CONS)
        self.refused_for("head", (1,), LIST, "p -> s", ("cons", ((0, ()), (0, ()))))

    def test_written_out(self):
        for book, wish, thing, word, place in (
            (PAIR, "q", ("f", (("a", ()),)), "makers", ()), (PAIR, "q", ("f", (("a", ()),) * 3), "makers", ()),
            (PAIR, "q", ("f", ("a", "b")), "shape", (0,)), (PAIR, "q", ("f", (("a", ()), "b")), "shape", (1,)),
            (PAIR, "q", ("a", ("b",)), "head", ()), (PAIR, "q", ("a", ()), "head", ()), (PAIR, "q", (0, ()), "head", ()),
            (PAIR, "p -> q", ("f", ((0, ()), (1, ()))), "head", (1,)), (PAIR, "p", ("a", (3,)), "makers", ()),
            (PAIR, "q", ("f", ((True, ()), ("b", ()))), "shape", (0,)), (PAIR, "q", "f", "shape", ()),
            (PAIR, "q", ("f", (("a", ("b",)), 3)), "makers", (0,)), (PAIR, "q", ("f", (("b", ()), ("c", 3))), "shape", (1,)),
            ((), PEIRCE, (0, ((1, ()),)), "head", (0,)), ((), "p", (0, ()), "head", ()),
            ((("f", "((p -> q) -> q) -> q"),), "q", ("f", ((0, ((1, ()),)),)), "head", (0, 0)),
            ((("f", "((p -> q) -> q) -> q"),), "q", ("f", ((0, ((0, ()),)),)), "head", (0, 0)),
        ):
            with self.subTest(thing=thing):
                self.assertEqual(fault_of(book, wish, thing), (word, place))
                self.refused_for(word, place, book, wish, thing)
        self.assert_gives(3, lets_maker, book=(), wish="(p -> q) -> p -> (q -> r) -> r", thing=(2, ((0, ((1, ()),)),)))
        self.assert_gives(2, lets_maker, book=(), wish="((p -> p) -> q) -> q", thing=(0, ((1, ()),)))

    def test_any_value(self):
        for thing in ANY_VALUES + NO_MAKERS + [Book(), (Book(), ()), ("a", Book())]:
            for book, wish in ((PAIR, "q"), (PAIR, "p"), ((), "p -> p"), (LIST, "s")):
                self.judged(book, wish, thing)

    def test_all_makers_of_small_books(self):
        for book, wish, maker in MADE:
            self.assertIsNone(self.judged(book, wish, maker))

    def test_changed_makers(self):
        met = {}
        for book, wish, maker in MADE[::3]:
            heads = [name for name, _ in book] + [0, 1, 2, 3]
            for changed in changed_makers(maker, heads):
                word = fault_of(book, wish, changed)
                met[word and word[0]] = met.get(word and word[0], 0) + 1
                if word is None:
                    self.assertEqual(lets_maker(book, wish, changed), size_of_maker(changed))
                else:
                    self.assert_raises(InvalidPaper, {"word": word[0], "at": word[1]}, lets_maker, book, wish, changed)
        self.assertEqual(set(met), {None, "shape", "head", "makers"})
        self.assertGreater(min(met.values()), 300)

    def test_two_changes(self):
        """The first place counts."""
        for book, wish, maker in MADE[::40]:
            heads = [name for name, _ in book] + [0, 1]
            for changed in changed_makers(maker, heads)[::7]:
                if fault_of((*book,), wish, changed) is None:
                    for twice in changed_makers(changed, heads)[::5]:
                        self.judged(book, wish, twice)

    def test_other_wishes_and_books(self):
        for (book, wish, maker), (other, kind, _) in zip(MADE, MADE[7::5]):
            self.judged(book, kind, maker)
            self.judged(other, wish, maker)

    def test_deep(self):
        book = (("f", "p -> p"),)
        self.assertEqual(lets_maker(book, "p -> p", DEEP), 1501)
        self.assert_raises(InvalidPaper, {"word": "head", "at": (0,) * 1500}, lets_maker, book, "p", DEEP)

    def test_not_usable(self):
        self.check_parameters(lets_maker, {"book": PAIR, "wish": "q", "thing": None}, {
            "book": NO_BOOKS + [Book(PAIR)], "wish": NO_KINDS})


class PartsOfMakersTest(Checks):
    def test_example(self):
        self.assert_is([list(places_of(CONS)), wanted_at(LIST, "p -> s", CONS, (1,))], [[(), (0,), (1,)], (("p",), "s")])

    def test_at_random(self):
        for _, _, maker in MADE:
            places = places_in(maker)
            self.assert_is(list(places_of(maker)), places)
            self.assert_is(list(places_of(maker=maker)), sorted(places))
            self.assert_gives(len(places), maker_size, maker=maker)
            self.assert_gives(1 + max(map(len, places)), maker_levels, maker=maker)
            self.assert_gives(tuple(sorted({head for head in heads_in(maker) if isinstance(head, str)})), names_in, maker=maker)
            for place in places:
                self.assert_gives(part_of(maker, place), part_at, maker=maker, place=place)
            for name in ("a", "b", "zz", *names_in(maker)):
                self.assert_gives(heads_in(maker).count(name), uses_of, maker=maker, name=name)

    def test_wanted_at_random(self):
        for book, wish, maker in MADE:
            found = wanted_places(book, wish, maker)
            self.assertEqual(sorted(found), places_in(maker))
            for place, (atom, hand) in found.items():
                expected = (tuple(kind_of_tree(tree) for tree in hand), atom)
                self.assert_gives(expected, wanted_at, book=book, wish=wish, maker=maker, place=place)

    def test_by_form_alone(self):
        """Makers of no wish."""
        maker = ("f", ((10 ** 60 - 1, ((7, ()),)), ("f", ()), ("abcdefgh", (("f", ()), (0, ())))))
        self.assert_is(list(places_of(maker)), [(), (0,), (0, 0), (1,), (2,), (2, 0), (2, 1)])
        self.assert_is([maker_size(maker), maker_levels(maker), names_in(maker), uses_of(maker, "f"), uses_of(maker, "a")],
                       [7, 3, ("abcdefgh", "f"), 3, 0])
        self.assert_is([maker_size((0, ())), maker_levels((0, ())), names_in((0, ()))], [1, 1, ()])

    def test_wide_and_deep(self):
        wide = ("f", (("a", ()),) * 3000)
        self.assert_is([maker_size(wide), maker_levels(wide), uses_of(wide, "a")], [3001, 2, 3000])
        self.assert_is(list(places_of(wide))[-1], (2999,))
        self.assert_is([maker_size(DEEP), maker_levels(DEEP), uses_of(DEEP, "f"), part_at(DEEP, (0,) * 1500)],
                       [1501, 1501, 1500, (0, ())])
        self.assert_is(wanted_at((("f", "p -> p"),), "p -> p", DEEP, (0,) * 1500), (("p",), "p"))

    def test_places_are_a_generator(self):
        self.assertTrue(inspect.isgenerator(places_of(CONS)))
        places = places_of(CONS)
        self.assert_is([next(places), next(places), next(places), next(places, None)], [(), (0,), (1,), None])
        for thing in NO_MAKERS:
            # It raises when the first place is asked for, not before.
            places = places_of(thing)
            self.assert_unusable("maker", -1, next, places)

    def test_no_places(self):
        for thing in NO_PLACES + [(2,), (0, 0), (1, 0), (0, 0, 0)]:
            self.assert_unusable("place", -1, part_at, CONS, thing)
            self.assert_unusable("place", -1, part_at, maker=CONS, place=thing)
            self.assert_unusable("place", -1, wanted_at, LIST, "p -> s", CONS, thing)

    def test_not_usable(self):
        for function in (maker_size, maker_levels, names_in):
            self.check_parameters(function, {"maker": CONS}, {"maker": NO_MAKERS})
        self.check_parameters(part_at, {"maker": CONS, "place": ()}, {"maker": NO_MAKERS, "place": NO_PLACES})
        self.check_parameters(uses_of, {"maker": CONS, "name": "nil"}, {"maker": NO_MAKERS, "name": NO_NAMES + [0]})
        self.check_parameters(wanted_at, {"book": LIST, "wish": "p -> s", "maker": CONS, "place": (0,)}, {
            "book": NO_BOOKS, "wish": NO_KINDS, "maker": NO_MAKERS + [("cons", ((0, ()), (0, ()))), (1, ()), ("a", ())],
            "place": NO_PLACES})

    def test_nested_values(self):
        for thing in (nested(40, tuple, ("a", ())), nested(39, tuple, ("a",))):
            self.assert_unusable("maker", -1, maker_size, thing)


if __name__ == "__main__":
    unittest.main()
