"""What is written down of terms and makers."""

from onlygiven.kinds import is_book, is_kind
from onlygiven.makertexts import maker_text
from onlygiven.makerwalks import usable_spots
from onlygiven.plainforms import plain_of
from onlygiven.usable import check_usable


class Recorder:
    """The texts of what is made over a book."""

    def __init__(self, book):
        check_usable(is_book(book), "book")
        self._book = book

    def __call__(self, term):
        """The text of the plain form of a term."""
        return maker_text(plain_of(self._book, term))

    def record(self, wish, maker):
        """The text of a maker of the wish."""
        check_usable(is_kind(wish), "wish")
        usable_spots(self._book, wish, maker, "maker")
        return maker_text(maker)
