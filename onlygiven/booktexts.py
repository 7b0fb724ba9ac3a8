"""The texts of entries and books."""

from onlygiven.kinds import is_book, is_entry
from onlygiven.usable import check_usable


def entry_line(entry):
    """The line of what is known to be an entry."""
    return ": ".join(entry)


def entry_text(entry):
    """The line of an entry."""
    check_usable(is_entry(entry), "entry")
    return entry_line(entry)


def book_text(book):
    """The lines of all entries, with newlines between."""
    check_usable(is_book(book), "book")
    return "\n".join([entry_line(entry) for entry in book])
