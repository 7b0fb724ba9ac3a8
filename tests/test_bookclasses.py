import random
import unittest

from books import LIST, PAIR, ROUND
from checks import Checks
from onlygiven.bookchanges import instance_book
from onlygiven.bookclasses import Book, Handed, Instance
from onlygiven.bookchecker import lets_book
from onlygiven.bookreadings import book_read
from onlygiven.booktexts import book_text
from onlygiven.builders import Builder
from onlygiven.errors import InvalidPaper, InvalidText
from onlygiven.kindparts import atoms_of, end_of
from oracles import changed_texts
from plainly import ATOMS, random_book, random_kind, random_name
from values import ANY_VALUES, NO_BOOKS, NO_ENTRIES, NO_KINDS, NO_NAMES, NO_STRINGS

BOOKS = [random_book(random.Random(seed), 8, 6) for seed in range(150)]

# Values of which none is a book, an entry, a name or a number, but which may stand where any value may.
OBJECTS = [Book(), Book(PAIR), Handed(PAIR, "a"), Instance(PAIR, "p", "q"), Builder(PAIR, "q"), (Book(), "p"),
           ("a", Book(PAIR)), [Book()], (Handed(PAIR),)]


class BookTest(Checks):
    def made(self, book, entries):
        """A Book of exactly this class, with these entries."""
        self.assertIs(type(book), Book)
        self.assert_is(book.entries, entries)

    def test_example(self):
        book = Book(PAIR)
        self.assert_is([
            book["f"], book("p"), "p" in book, (book - "f").entries, Book(PAIR[:2]).lies_in(book),
            (book & Book(PAIR[1:])).entries == PAIR[1:],
        ], ["p -> p -> q", ("a", "b"), False, (("a", "p"), ("b", "p")), True, True])

    def test_made(self):
        self.made(Book(), ())
        self.made(Book(PAIR), PAIR)
        self.made(Book(entries=PAIR), PAIR)

    def test_errors_of_entries(self):
        for thing in ANY_VALUES + NO_BOOKS + OBJECTS + [PAIR + PAIR[:1], PAIR[::-1], PAIR + (None,)]:
            try:
                lets_book(thing)
            except InvalidPaper as error:
                self.assert_raises(InvalidPaper, vars(error), Book, thing)
                self.assert_raises(InvalidPaper, vars(error), Book, entries=thing)
            else:
                self.made(Book(thing), thing)

    def test_asked_at_random(self):
        for entries in BOOKS:
            book, names = Book(entries), [name for name, _ in entries]
            self.assert_is(book.entries, entries)
            self.assert_is(book.atoms, tuple(sorted({atom for _, kind in entries for atom in atoms_of(kind)})))
            self.assert_is(len(book), len(entries))
            self.assert_is(list(book), names)
            self.assert_is([name for name in book], names)
            self.assert_is(str(book), book_text(entries))
            for name, kind in entries:
                self.assert_is(book[name], kind)
                self.assertIs(name in book, True)
            for atom in ATOMS + ("zz",):
                ends = tuple(name for name, kind in entries if end_of(kind) == atom)
                self.assert_is(book(atom), ends)
                self.assert_is(book(atom=atom), ends)

    def test_any_value_as_a_name(self):
        book = Book(PAIR)
        for thing in ANY_VALUES + OBJECTS + ["c", "aa", "p", "F", 0, 1, slice(0, 1)]:
            self.assertIs(thing in book, False)
            self.assert_unusable("name", -1, lambda: book[thing])
            self.assert_unusable("name", -1, lambda: book - thing)

    def test_any_value_as_an_atom(self):
        for thing in NO_NAMES + OBJECTS + ["p -> q"]:
            self.assert_unusable("atom", -1, Book(PAIR), thing)
            self.assert_unusable("atom", -1, Book(PAIR), atom=thing)

    def test_never_changes(self):
        book = Book(PAIR)
        for name in ("entries", "atoms"):
            with self.assertRaises(AttributeError):
                setattr(book, name, ())
        with self.assertRaises(TypeError):
            book["a"] = "q"
        for changed in (book + ("g", "q"), book - "a", book | Book(LIST), book & Book()):
            self.assertNotEqual(changed, book)
        self.made(book, PAIR)
        book += ("g", "q")
        self.made(book, PAIR + (("g", "q"),))

    def test_equal(self):
        for entries in (*BOOKS[:20], PAIR):
            for others in (*BOOKS[:20], PAIR):
                self.assertIs(Book(entries) == Book(others), entries == others)
                self.assertIs(Book(entries) != Book(others), entries != others)
        for thing in ANY_VALUES + OBJECTS[:1] + [PAIR, str(Book(PAIR)), NotImplemented]:
            self.assertIs(Book(PAIR) == thing, False)
            self.assertIs(thing == Book(PAIR), False)

    def test_equal_of_whatever_class(self):
        handed, instance = Handed(PAIR, "a", "b", "f"), Instance(PAIR, "z", "q")
        for one in (Book(PAIR), handed, instance):
            for other in (Book(PAIR), handed, instance):
                self.assertIs(one == other, True)
                self.assertIs(one == (other - "a"), False)

    def test_lies_in_at_random(self):
        for seed, entries in enumerate(BOOKS):
            rng = random.Random(seed)
            some = tuple(entry for entry in entries if rng.random() < 0.7)
            changed = tuple((name, kind if rng.random() < 0.8 else "z") for name, kind in some)
            for less in (some, changed, entries, (), PAIR):
                expected = set(less) <= set(entries)
                self.assertIs(Book(less).lies_in(Book(entries)), expected)
                self.assertIs(Book(less).lies_in(other=Book(entries)), expected)

    def test_plus_and_minus_at_random(self):
        for seed, entries in enumerate(BOOKS):
            rng = random.Random(seed)
            entry = (random_name(rng), random_kind(rng, 5))
            if entry[0] in dict(entries):
                self.assert_unusable("entry", -1, lambda: Book(entries) + entry)
            else:
                self.made(Book(entries) + entry, tuple(sorted((*entries, entry))))
            for k, (name, _) in enumerate(entries):
                self.made(Book(entries) - name, entries[:k] + entries[k + 1:])

    def test_both_at_random(self):
        met = {True: 0, False: 0}
        for seed, entries in enumerate(BOOKS[1:]):
            rng = random.Random(seed)
            others = dict(BOOKS[seed])
            others.update((name, kind if rng.random() < 0.9 else "z") for name, kind in entries if rng.random() < 0.7)
            others = tuple(sorted(others.items()))
            self.made(Book(entries) & Book(others), tuple(sorted(set(entries) & set(others))))
            union = sorted(set(entries) | set(others))
            agree = len(union) == len(dict(union))
            met[agree] += 1
            if agree:
                self.made(Book(entries) | Book(others), tuple(union))
            else:
                self.assert_unusable("other", -1, lambda: Book(entries) | Book(others))
        self.assertGreater(min(met.values()), 20)

    def test_not_usable(self):
        book = Book(PAIR)
        no_books = [thing for thing in ANY_VALUES + OBJECTS if not isinstance(thing, Book)] + [PAIR, "a: p"]
        for thing in no_books:
            self.assert_unusable("other", -1, lambda: book | thing)
            self.assert_unusable("other", -1, lambda: book & thing)
            self.assert_unusable("other", -1, book.lies_in, thing)
            self.assert_unusable("other", -1, book.lies_in, other=thing)
        for thing in NO_ENTRIES + OBJECTS + [("a", "p"), ("f", "q"), PAIR, "g"]:
            self.assert_unusable("entry", -1, lambda: book + thing)

    def test_derived_classes_give_books(self):
        for book in (Handed(PAIR, "a", "f"), Instance(PAIR[::2], "q", "q")):
            self.made(book + ("g", "q"), (PAIR[0], PAIR[2], ("g", "q")))
            self.made(book - "a", PAIR[2:])
            self.made(book | Book(PAIR), PAIR)
            self.made(book & Book(PAIR[:2]), PAIR[:1])
            self.made(book & book, PAIR[::2])


class BookOfTest(Checks):
    def test_of_at_random(self):
        for seed, entries in enumerate(BOOKS):
            mixed = list(entries)
            random.Random(seed).shuffle(mixed)
            book = Book.of(*mixed)
            self.assertIs(type(book), Book)
            self.assert_is(book.entries, entries)

    def test_of_nothing(self):
        self.assert_is(Book.of().entries, ())

    def test_of_what_is_no_entry(self):
        for thing in NO_ENTRIES + OBJECTS:
            self.assert_unusable("entries", 0, Book.of, thing)
            self.assert_unusable("entries", 2, Book.of, ("b", "p"), ("a", "p"), thing)
            self.assert_unusable("entries", 1, Book.of, ("b", "p"), thing, ("b", "p"))

    def test_of_a_name_twice(self):
        self.assert_unusable("entries", 1, Book.of, ("a", "p"), ("a", "p"))
        self.assert_unusable("entries", 2, Book.of, ("b", "p"), ("a", "p"), ("b", "q"))
        self.assert_unusable("entries", 2, Book.of, ("b", "p"), ("a", "p"), ("b", "q"), None)

    def test_read(self):
        for entries in BOOKS:
            for book in (Book.read(book_text(entries)), Book.read(text=book_text(entries))):
                self.assertIs(type(book), Book)
                self.assert_is(book.entries, entries)
                self.assert_is(str(book), book_text(entries))

    def test_read_what_cannot_be_read(self):
        for text in changed_texts("ab: p\nb: p -> q"):
            try:
                entries = book_read(text)
            except InvalidText as error:
                self.assert_raises(InvalidText, vars(error), Book.read, text)
            else:
                self.assert_is(Book.read(text).entries, entries)
        for thing in NO_STRINGS + OBJECTS:
            self.assert_unusable("text", -1, Book.read, thing)
            self.assert_unusable("text", -1, Book.read, text=thing)


class HandedTest(Checks):
    def test_at_random(self):
        for seed, entries in enumerate(BOOKS):
            rng = random.Random(seed)
            names = [rng.choice(entries)[0] for _ in range(rng.randint(0, 6))] if entries else []
            book = Handed(entries, *names)
            self.assertIs(type(book), Handed)
            self.assertIsInstance(book, Book)
            self.assertIs(book.told, entries)
            self.assert_is(book.entries, tuple(entry for entry in entries if entry[0] in names))
            self.assert_is(list(book), sorted(set(names)))
            self.assertIs(book.lies_in(Book(entries)), True)

    def test_in_any_order_and_more_than_once(self):
        self.assert_is(Handed(PAIR, "f", "a", "f").entries, (PAIR[0], PAIR[2]))
        self.assert_is(Handed(book=PAIR).entries, ())
        self.assert_is(Handed(PAIR).told, PAIR)

    def test_not_usable(self):
        for thing in NO_BOOKS + OBJECTS:
            self.assert_unusable("book", -1, Handed, thing)
            self.assert_unusable("book", -1, Handed, thing, "a")
            self.assert_unusable("book", -1, Handed, thing, None)
        for thing in ANY_VALUES + OBJECTS + ["c", "p"]:
            self.assert_unusable("names", 0, Handed, PAIR, thing)
            self.assert_unusable("names", 2, Handed, PAIR, "a", "a", thing)
            self.assert_unusable("names", 1, Handed, PAIR, "f", thing, thing, "b")


class InstanceTest(Checks):
    def test_at_random(self):
        for seed, entries in enumerate(BOOKS):
            rng = random.Random(seed)
            atom, other = rng.choice(ATOMS), random_kind(rng, 4)
            for book in (Instance(entries, atom, other), Instance(book=entries, atom=atom, other=other)):
                self.assertIs(type(book), Instance)
                self.assertIsInstance(book, Book)
                self.assertIs(book.told, entries)
                self.assert_is(book.entries, instance_book(entries, atom, other))

    def test_written_out(self):
        book = Instance(ROUND, "p", "r -> q")
        self.assert_is((book.entries, book.atoms, book("q")), (
            (("f", "(r -> q) -> q"), ("g", "q -> r -> q")), ("q", "r"), ("f", "g")))

    def test_not_usable(self):
        self.check_parameters(Instance, {"book": PAIR, "atom": "p", "other": "q"}, {
            "book": NO_BOOKS + [Book(PAIR)], "atom": NO_NAMES, "other": NO_KINDS})

    def test_never_changes(self):
        for book in (Handed(PAIR, "a"), Instance(PAIR, "p", "q")):
            for name in ("entries", "atoms", "told"):
                with self.assertRaises(AttributeError):
                    setattr(book, name, ())


if __name__ == "__main__":
    unittest.main()
