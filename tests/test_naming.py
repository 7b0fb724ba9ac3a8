import unittest

from books import LIST, PAIR, ROUND, SAFE
from checks import Checks
from onlygiven.bookclasses import Book
from onlygiven.errors import NotMade
from onlygiven.naming import greatest_without, least_names, names_of_use, needed_names
from papers import all_sets, part_of_book
from plainly import has_maker, heads_in, makers_of_size, wishes_of_all_sorts
from values import NO_BOOKS, NO_KINDS

WISHES = wishes_of_all_sorts(50, 160, names=5) + wishes_of_all_sorts(501, 60, names=6, order=3) + wishes_of_all_sorts(
    502, 40, names=5, atoms=("p", "q"), size=5, order=3)


def enough_sets(book, wish):
    return [names for names in all_sets(book) if has_maker(part_of_book(book, names), wish)]


def least_of(sets):
    return tuple(sorted(row for row in sets if not any(set(other) < set(row) for other in sets)))


def greatest_of(sets):
    return tuple(sorted(row for row in sets if not any(set(other) > set(row) for other in sets)))


class NamingTest(Checks):
    def test_examples(self):
        self.assert_is(
            [needed_names(PAIR, "q"), least_names(PAIR, "q"), greatest_without(PAIR, "q"), greatest_without(ROUND, "p")],
            [("f",), (("a", "f"), ("b", "f")), (("a", "b"), ("f",)), (("f", "g"),)])

    def test_sets_at_random(self):
        met = {}
        for book, wish in WISHES:
            enough = enough_sets(book, wish)
            lacking = [names for names in all_sets(book) if names not in enough]
            self.assert_gives(least_of(enough), least_names, book=book, wish=wish)
            self.assert_gives(greatest_of(lacking), greatest_without, book=book, wish=wish)
            met[len(least_of(enough))] = met.get(len(least_of(enough)), 0) + 1
        self.assertGreater(min(met[many] for many in range(4)), 1)

    def test_needed_at_random(self):
        met = {}
        for book, wish in WISHES:
            enough = enough_sets(book, wish)
            if not enough:
                self.assert_raises(NotMade, {"wish": wish}, needed_names, book, wish)
                self.assert_raises(NotMade, {"wish": wish}, needed_names, book=book, wish=wish)
                continue
            needed = tuple(name for name, _ in book if all(name in names for names in enough))
            self.assert_gives(needed, needed_names, book=book, wish=wish)
            met[len(needed)] = met.get(len(needed), 0) + 1
        self.assertLess({0, 1, 2}, set(met))

    def test_names_of_use_at_random(self):
        """All names that makers up to some size have are told, and for each that is told there is such a maker."""
        for book, wish in WISHES:
            found = names_of_use(book, wish)
            self.assert_gives(found, names_of_use, book=book, wish=wish)
            self.assertEqual(found, tuple(sorted(set(found))))
            used = {head for size in range(8) for maker in makers_of_size(book, wish, size)
                    for head in heads_in(maker) if isinstance(head, str)}
            self.assertLessEqual(used, set(found))
            for name in set(found) - used:
                self.assertTrue(self.has_use(book, wish, name), (book, wish, name))
            for name in {name for name, _ in book} - set(found):
                self.assertFalse(self.has_use(book, wish, name), (book, wish, name))

    def has_use(self, book, wish, name):
        """Whether some greater maker has the name as a head."""
        for size in range(8, 13):
            for maker in makers_of_size(book, wish, size)[:20000]:
                if name in heads_in(maker):
                    return True
        return False

    def test_written_out(self):
        for book, wish, needed, use, least, without in (
            (PAIR, "p", (), ("a", "b"), (("a",), ("b",)), (("f",),)),
            (PAIR, "p -> q", ("f",), ("a", "b", "f"), (("f",),), (("a", "b"),)),
            (PAIR, "p -> p", (), ("a", "b"), ((),), ()),
            (LIST, "s", ("nil",), ("nil",), (("nil",),), (("cons",),)),
            (LIST, "p -> s", ("nil",), ("cons", "nil"), (("nil",),), (("cons",),)),
            (SAFE, "t", ("u", "v"), ("u", "v"), (("u", "v"),), (("a", "u"), ("a", "v"))),
            (SAFE, "q", ("a",), ("a",), (("a",),), (("u", "v"),)),
            ((), "p -> p", (), (), ((),), ()),
            ((("f", "p -> q"), ("g", "p -> q"), ("x", "p"), ("y", "p")), "q", (), ("f", "g", "x", "y"),
             (("f", "x"), ("f", "y"), ("g", "x"), ("g", "y")), (("f", "g"), ("x", "y"))),
        ):
            with self.subTest(book=book, wish=wish):
                self.assert_is([needed_names(book, wish), names_of_use(book, wish)], [needed, use])
                self.assert_is([least_names(book, wish), greatest_without(book, wish)], [least, without])

    def test_no_maker(self):
        self.assert_is([names_of_use(ROUND, "p"), least_names(ROUND, "p"), greatest_without((), "p")], [(), (), ((),)])
        self.assert_raises(NotMade, {"wish": "p"}, needed_names, ROUND, "p")

    def test_of_use_where_it_is_not_needed(self):
        """A name of a kind that a variable has, too; and names behind a stand where nothing can be made."""
        self.assert_is(names_of_use((("a", "p"),), "p -> p"), ("a",))
        self.assert_is(names_of_use((("a", "p"), ("b", "s"), ("g", "s -> s"), ("h", "r -> s -> p")), "p"), ("a",))

    def test_consequences(self):
        """Each set includes a least one or lies in a greatest one that is not enough, never both."""
        for book, wish in WISHES[:80]:
            least, without = least_names(book, wish), greatest_without(book, wish)
            for names in all_sets(book):
                self.assertNotEqual(
                    any(set(row) <= set(names) for row in least), any(set(names) <= set(row) for row in without))

    def test_at_the_limits_and_beyond(self):
        book = tuple((name, kind) for name, kind in zip("abcdefgh", ("p", "p", "p", "p", "q", "q", "q", "p -> q -> r")))
        self.assertEqual(len(least_names(book, "r")), 12)
        self.assertEqual(len(greatest_without(book, "r")), 3)
        many = tuple((f"{side}{letter}", kind) for side, kind in (("a", "p"), ("b", "p -> q")) for letter in "abcdefgh")
        self.assertEqual(len(least_names(many, "q")), 64)
        self.assertEqual(greatest_without(many, "q"), (tuple(name for name, _ in many[:8]), tuple(name for name, _ in many[8:])))
        self.assertEqual(needed_names(many, "p -> p"), ())

    def test_not_usable(self):
        for function in (needed_names, names_of_use, least_names, greatest_without):
            self.check_parameters(function, {"book": PAIR, "wish": "q"}, {
                "book": NO_BOOKS + [Book(PAIR)], "wish": NO_KINDS})


if __name__ == "__main__":
    unittest.main()
