"""Books as objects."""

from onlygiven.bookchanges import has_name, instance_book, joined, with_name, without_name
from onlygiven.bookchecker import lets_book
from onlygiven.bookreadings import book_read
from onlygiven.booktexts import entry_line
from onlygiven.errors import NotUsable
from onlygiven.kinds import is_book, is_entry, is_name, names_of
from onlygiven.kindsplits import end_in, names_in_kind
from onlygiven.usable import check_usable


class Book:
    """A book that never changes."""

    def __init__(self, entries=()):
        lets_book(entries)
        self._rows = entries
        self._names = tuple(names_of(entries))

    @property
    def entries(self):
        return self._rows

    @property
    def atoms(self):
        """The set of the atoms of its kinds."""
        return tuple(sorted({atom for entry in self._rows for atom in names_in_kind(entry[1])}))

    def __getitem__(self, at):
        """The kind of a name."""
        check_usable(has_name(self._rows, at), "name")
        return dict(self._rows)[at]

    def __contains__(self, x):
        return has_name(self._rows, x)

    def __len__(self):
        return len(self._rows)

    def __iter__(self):
        return iter(self._names)

    def __str__(self):
        return "\n".join([entry_line(entry) for entry in self._rows])

    def __call__(self, atom):
        """The set of the names whose kinds have this end."""
        check_usable(is_name(atom), "atom")
        return tuple([name for name, kind in self._rows if end_in(kind) == atom])

    def __eq__(self, other):
        return isinstance(other, Book) and self._rows == other._rows

    def lies_in(self, other):
        """Whether the other book has all its entries."""
        # What is no Book is refused by the sign.
        return (self & other) == self

    def __add__(self, other):
        """With this entry, too."""
        check_usable(is_entry(other) and not has_name(self._rows, other[0]), "entry")
        return Book(with_name(self._rows, other[0], other[1]))

    def __sub__(self, other):
        """Without this name."""
        return Book(without_name(self._rows, other))

    def __or__(self, other):
        """The entries of both."""
        check_usable(isinstance(other, Book), "other")
        return Book(joined(self._rows, other._rows))

    def __and__(self, other):
        """The entries that both have."""
        check_usable(isinstance(other, Book), "other")
        kinds = dict(other._rows)
        return Book(tuple([(name, kind) for name, kind in self._rows if kinds.get(name) == kind]))

    # These two are called on Book itself, as derived classes are made of something else than entries.

    @classmethod
    def of(cls, *entries):
        """The Book of these entries, in any order."""
        seen = {}
        for k, entry in enumerate(entries):
            if not is_entry(entry) or entry[0] in seen:
                raise NotUsable("entries", k)
            seen[entry[0]] = True
        return Book(tuple(sorted(list(entries))))

    @classmethod
    def read(cls, text):
        """The Book that the text writes."""
        return Book(book_read(text))


class Handed(Book):
    """What is handed on of a book: the entries of some of its names alone."""

    def __init__(self, book, *names):
        check_usable(is_book(book), "book")
        for k, name in enumerate(names):
            if not has_name(book, name):
                raise NotUsable("names", k)
        Book.__init__(self, tuple([entry for entry in book if entry[0] in names]))
        self._told = book

    @property
    def told(self):
        """The book of which it was handed."""
        return self._told


class Instance(Book):
    """A book in which an atom is replaced by a kind everywhere."""

    def __init__(self, book, atom, other):
        Book.__init__(self, instance_book(book, atom, other))
        self._told = book

    @property
    def told(self):
        """The book of which it is an instance."""
        return self._told
