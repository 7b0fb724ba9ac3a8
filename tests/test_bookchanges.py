import random
import unittest

from books import PAIR
from checks import Checks
from onlygiven.bookchanges import handed, instance_book, joined, renamed, with_kind, with_name, without_name
from onlygiven.kinds import is_book
from plainly import kind_of_tree, random_book, random_kind, random_name, tree_instance, tree_of
from values import ANY_VALUES, NO_BOOKS, NO_KINDS, NO_NAMES

# Entries stand in a dict here: a name, and its kind.
BOOKS = [dict(random_book(random.Random(seed), 8, 6)) for seed in range(250)]


def book_of(entries):
    return tuple(sorted(entries.items()))


def no_names_of(book):
    return NO_NAMES + [name for name in ("aa", "ba", "p", "q", "zzzzzzzz") if name not in dict(book)]


class BookChangesTest(Checks):
    def test_example(self):
        self.assert_is(renamed(handed(PAIR, ("a", "f")), "a", "z"), (("f", "p -> p -> q"), ("z", "p")))

    def test_written_out(self):
        self.assert_gives(PAIR + (("g", "q"),), with_name, book=PAIR, name="g", kind="q")
        self.assert_gives((("a", "p"), ("aa", "q")) + PAIR[1:], with_name, book=PAIR, name="aa", kind="q")
        self.assert_gives((("a", "p"),), with_name, book=(), name="a", kind="p")
        self.assert_gives((PAIR[0], PAIR[2]), without_name, book=PAIR, name="b")
        self.assert_gives((), without_name, book=PAIR[:1], name="a")
        self.assert_gives((PAIR[0], ("b", "q -> p"), PAIR[2]), with_kind, book=PAIR, name="b", kind="q -> p")
        self.assert_gives(PAIR, with_kind, book=PAIR, name="a", kind="p")
        self.assert_gives((PAIR[0], PAIR[2]), handed, book=PAIR, names=("a", "f"))
        self.assert_gives((), handed, book=PAIR, names=())
        self.assert_gives(PAIR, handed, book=PAIR, names=("a", "b", "f"))
        self.assert_gives((("b", "p"), ("c", "p"), PAIR[2]), renamed, book=PAIR, name="a", other="c")
        self.assert_gives(PAIR, renamed, book=PAIR, name="a", other="a")
        self.assert_gives(PAIR, joined, book=PAIR[:2], other=PAIR[1:])
        self.assert_gives(PAIR, joined, book=(), other=PAIR)
        self.assert_gives(PAIR, joined, book=PAIR, other=())
        self.assert_gives((("a", "p -> p"), ("b", "p -> p"), ("f", "(p -> p) -> (p -> p) -> q")), instance_book,
                          book=PAIR, atom="p", other="p -> p")
        self.assert_gives(PAIR, instance_book, book=PAIR, atom="r", other="p -> p")

    def test_entries_at_random(self):
        for seed, entries in enumerate(BOOKS):
            rng = random.Random(-seed)
            book, name, kind = book_of(entries), random_name(rng), random_kind(rng, 6)
            if name not in entries:
                self.assert_gives(book_of({**entries, name: kind}), with_name, book=book, name=name, kind=kind)
                self.assert_is(without_name(with_name(book, name, kind), name), book)
            for known in entries:
                others = {other: entries[other] for other in entries if other != known}
                self.assert_gives(book_of(others), without_name, book=book, name=known)
                self.assert_gives(book_of({**others, known: kind}), with_kind, book=book, name=known, kind=kind)
                if name not in others:
                    changed = book_of({**others, name: entries[known]})
                    self.assert_gives(changed, renamed, book=book, name=known, other=name)
                    self.assert_is(renamed(changed, name, known), book)
            self.assert_is(book, book_of(entries))

    def test_sets_of_names_at_random(self):
        for seed, entries in enumerate(BOOKS):
            rng = random.Random(seed)
            for _ in range(4):
                names = sorted(name for name in entries if rng.random() < 0.5)
                expected = book_of({name: entries[name] for name in names})
                self.assert_gives(expected, handed, book=book_of(entries), names=tuple(names))

    def test_two_books_at_random(self):
        met = {True: 0, False: 0}
        for seed, entries in enumerate(BOOKS[1:]):
            rng = random.Random(seed)
            other = {**BOOKS[seed], **{name: entries[name] for name in entries if rng.random() < 0.7}}
            agree = all(entries[name] == other[name] for name in entries if name in other)
            met[agree] += 1
            if agree:
                self.assert_gives(book_of({**entries, **other}), joined, book=book_of(entries), other=book_of(other))
                self.assert_gives(book_of({**entries, **other}), joined, book=book_of(other), other=book_of(entries))
            else:
                self.refused("other", joined, {"book": book_of(entries), "other": book_of(other)})
        self.assertGreater(min(met.values()), 20)

    def test_instances_at_random(self):
        for seed, entries in enumerate(BOOKS):
            rng = random.Random(seed)
            atom, other = rng.choice("pqrs"), random_kind(rng, 4)
            expected = {name: kind_of_tree(tree_instance(tree_of(kind), atom, tree_of(other)))
                        for name, kind in entries.items()}
            self.assert_gives(book_of(expected), instance_book, book=book_of(entries), atom=atom, other=other)

    def test_results_are_books(self):
        for entries in BOOKS:
            for name in entries:
                self.assertTrue(is_book(renamed(book_of(entries), name, "ab")) if "ab" not in entries else True)

    def test_not_usable(self):
        good = {"book": PAIR, "name": "b", "kind": "q"}
        known = NO_NAMES + ["a", "b", "f"]
        self.check_parameters(with_name, {**good, "name": "c"}, {"book": NO_BOOKS, "name": known, "kind": NO_KINDS})
        self.check_parameters(with_kind, good, {"book": NO_BOOKS, "name": no_names_of(PAIR), "kind": NO_KINDS})
        self.check_parameters(without_name, {"book": PAIR, "name": "b"}, {"book": NO_BOOKS, "name": no_names_of(PAIR)})
        self.check_parameters(renamed, {"book": PAIR, "name": "b", "other": "c"}, {
            "book": NO_BOOKS, "name": no_names_of(PAIR), "other": NO_NAMES + ["a", "f"]})
        self.check_parameters(joined, {"book": PAIR, "other": ()}, {
            "book": NO_BOOKS, "other": NO_BOOKS + [(("a", "q"),), (("f", "p"), ("g", "p")), PAIR[:2] + (("f", "q"),)]})
        self.check_parameters(instance_book, {"book": PAIR, "atom": "p", "other": "q"}, {
            "book": NO_BOOKS, "atom": NO_NAMES, "other": NO_KINDS})

    def test_no_set_of_names(self):
        wrong = [thing for thing in ANY_VALUES if thing != ()] + [
            ("b", "a"), ("a", "a"), ("a", "c"), ["a"], ["a", "b"], "a", ("a", "b", "f", "g"), ("A",), (("a",),), (["a"],),
            ("a", None), ("", "a"), ("a", 0), (True,),
        ]
        self.check_parameters(handed, {"book": PAIR, "names": ("a",)}, {"book": NO_BOOKS, "names": wrong})

    def test_many_names(self):
        book = tuple(sorted((a + b + c, "p") for a in "abcdefghij" for b in "abcdefghij" for c in "abcdefghij"))
        names = tuple(name for name, _ in book)
        self.assert_is(handed(book, names[1:]), book[1:])
        self.assert_is(joined(book[:500], book[400:]), book)
        self.assert_is(instance_book(book, "p", "q")[999], ("jjj", "q"))


if __name__ == "__main__":
    unittest.main()
