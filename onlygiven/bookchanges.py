"""Changed books. A book itself never changes."""

from onlygiven.kindchanges import instance_in
from onlygiven.kinds import is_ascending, is_book, is_kind, is_name
from onlygiven.usable import check_usable


def has_name(book, name):
    """Whether any value is one of the names of the book."""
    return is_name(name) and name in dict(book)


def check_named(book, name):
    """The parameters of the changes of one entry."""
    check_usable(is_book(book), "book")
    check_usable(has_name(book, name), "name")


def are_names(book, names):
    """Whether any value is a set of names of the book."""
    if not isinstance(names, tuple) or not all([is_name(name) for name in names]):
        return False
    known = dict(book)
    return is_ascending(names) and all([name in known for name in names])


def agree(book, other):
    """Whether no name has one kind in the one book and another kind in the other one."""
    kinds = dict(book)
    return all([kinds.get(name, kind) == kind for name, kind in other])


def with_name(book, name, kind):
    """The book with this entry, too."""
    check_usable(is_book(book), "book")
    check_usable(is_name(name) and not has_name(book, name), "name")
    check_usable(is_kind(kind), "kind")
    return tuple(sorted([*book, (name, kind)]))


def without_name(book, name):
    """The book without this entry."""
    check_named(book, name)
    return tuple([entry for entry in book if entry[0] != name])


def with_kind(book, name, kind):
    """The book in which the name has this kind."""
    check_named(book, name)
    check_usable(is_kind(kind), "kind")
    return tuple([(known, kind if known == name else old) for known, old in book])


def handed(book, names):
    """The book of these names alone."""
    check_usable(is_book(book), "book")
    check_usable(are_names(book, names), "names")
    kinds = dict(book)
    return tuple([(name, kinds[name]) for name in names])


def renamed(book, name, other):
    """The book in which the name is called otherwise."""
    check_named(book, name)
    check_usable(is_name(other) and (other == name or not has_name(book, other)), "other")
    return tuple(sorted([(other if known == name else known, kind) for known, kind in book]))


def joined(book, other):
    """The book of the entries of both."""
    check_usable(is_book(book), "book")
    check_usable(is_book(other) and agree(book, other), "other")
    return tuple(sorted(set(book + other)))


def instance_book(book, atom, other):
    """The book in which each kind is replaced by its instance."""
    check_usable(is_book(book), "book")
    check_usable(is_name(atom), "atom")
    check_usable(is_kind(other), "other")
    return tuple([(name, instance_in(kind, atom, other)) for name, kind in book])
