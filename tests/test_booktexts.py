import random
import unittest

from books import LIST, PAIR
from checks import Checks
from onlygiven.bookreadings import book_read, entry_read
from onlygiven.booktexts import book_text, entry_text
from plainly import random_book
from values import NO_BOOKS, NO_ENTRIES

BOOKS = [random_book(random.Random(seed), 8, 8) for seed in range(300)]


class BookTextsTest(Checks):
    def test_written_out(self):
        self.assert_gives("f: p -> p -> q", entry_text, entry=PAIR[2])
        self.assert_gives("abcdefgh: (p -> q) -> p", entry_text, entry=("abcdefgh", "(p -> q) -> p"))
        self.assert_gives("a: p\nb: p\nf: p -> p -> q", book_text, book=PAIR)
        self.assert_gives("cons: p -> s -> s\nnil: s", book_text, book=LIST)
        self.assert_gives("a: p", book_text, book=PAIR[:1])
        self.assert_gives("", book_text, book=())

    def test_at_random(self):
        for book in BOOKS:
            lines = [name + ": " + kind for name, kind in book]
            self.assert_gives("\n".join(lines), book_text, book=book)
            for entry, line in zip(book, lines):
                self.assert_gives(line, entry_text, entry=entry)

    def test_read_again(self):
        for book in BOOKS:
            self.assert_is(book_read(book_text(book)), book)
            self.assert_is(book_text(book_read(book_text(book))), book_text(book))
            for entry in book:
                self.assert_is(entry_read(entry_text(entry)), entry)

    def test_not_usable(self):
        self.check_parameters(entry_text, {"entry": ("a", "p")}, {"entry": NO_ENTRIES})
        self.check_parameters(book_text, {"book": PAIR}, {"book": NO_BOOKS})


if __name__ == "__main__":
    unittest.main()
