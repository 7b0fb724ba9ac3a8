import unittest

from checks import Checks
from onlygiven.bookreadings import book_read, entry_read, kind_read
from onlygiven.errors import InvalidText, NotUsable
from oracles import changed_texts, entry_column, entry_in, is_kind_text, kind_column
from values import ANY_VALUES, NO_STRINGS, SIXTY_DIGITS

NO_NUMBERS = [-1, -SIXTY_DIGITS, True, False, None, "", "0", "p", (), (0,), [], [0]]

KINDS = ("p", "p -> q", "(p -> q) -> p", "((p -> q) -> p) -> p", "abcdefgh -> (a -> (b -> c) -> d) -> e")
ENTRIES = ("f: p", "abcdefgh: p -> q", "z: (p -> q) -> p", "zzzzzzzz: p")
BOOKS = ("a: p", "a: p\nb: p\nf: p -> p -> q", "ba: p\nbaa: (p -> q) -> p\nbb: q", "yzzzzzzz: p\nz: q\nzzzzzzzz: r")


def first_fault(text):
    """The line and the column that book_read has to tell, or the book as a pair with None."""
    entries, above = [], ""
    for line, row in enumerate(text.split("\n") if text else []):
        entry = entry_in(row, above)
        if entry is None:
            return line, entry_column(row, above)
        entries.append(entry)
        above = entry[0]
    return None, tuple(entries)


class ReadingTest(Checks):
    def unread(self, line, column, function, /, *arguments, **named):
        self.assert_raises(InvalidText, {"line": line, "column": column}, function, *arguments, **named)

    def unusable(self, word, function, /, *arguments, **named):
        self.assert_raises(NotUsable, {"word": word, "at": -1}, function, *arguments, **named)


class KindReadTest(ReadingTest):
    def test_kinds(self):
        for kind in KINDS:
            self.assert_is(kind_read(kind), kind)
            self.assert_is(kind_read(text=kind, line=3), kind)

    def test_example(self):
        self.unread(0, 2, kind_read, "(p) -> q")

    def test_columns(self):
        for text, column in (
            ("", 0), ("(", 1), ("()", 1), (")", 0), (" p", 0), ("P", 0), ("p ", 2), ("p -", 3), ("p ->", 4),
            ("p -> ", 5), ("p->", 1), ("p  -> q", 2), ("p ->  q", 5), ("p -> q ", 7), ("p q", 2), ("p -> q)", 6),
            ("p)", 1), ("(p", 2), ("(p -> q", 7), ("(p -> q)", 8), ("(p -> q) -> ", 12), ("(p -> q))", 8),
            ("((p -> q)) -> r", 9), ("((p -> q) -> r", 14), ("p -> (q)", 7), ("p -> (q -> r)", 13),
            ("abcdefghi", 8), ("abcdefgh -> abcdefghi", 20), ("(abcdefghi", 9), ("p\n", 1), ("\np", 0),
            ("p -> \nq", 5), ("p -> q\n", 6), ("p1", 1), ("pA", 1), ("p: q", 1), ("p, q", 1), ("p -> Q", 5),
        ):
            with self.subTest(text=text):
                self.assertEqual(kind_column(text), column)
                self.unread(0, column, kind_read, text)

    def test_changed_texts(self):
        for kind in KINDS:
            for text in changed_texts(kind):
                if is_kind_text(text):
                    self.assert_is(kind_read(text), text)
                else:
                    self.unread(0, kind_column(text), kind_read, text)

    def test_line_is_told(self):
        for line in (0, 1, 17, SIXTY_DIGITS):
            self.unread(line, 1, kind_read, "p\n", line=line)

    def test_long_and_deep(self):
        deep = "(" * 60 + "p -> p" + ") -> p" * 60
        self.assert_is(kind_read(deep), deep)
        self.unread(0, len(deep) - 1, kind_read, deep[:-1])
        self.unread(0, len(deep), kind_read, deep + ")")
        long = "p -> " * 799 + "p"
        self.assert_is(kind_read(long), long)
        self.unread(0, len(long) - 1, kind_read, long[:-1])

    def test_not_usable(self):
        for thing in NO_STRINGS:
            self.unusable("text", kind_read, thing)
            self.unusable("text", kind_read, thing, line=-1)
        for line in NO_NUMBERS:
            self.unusable("line", kind_read, "p", line=line)
            self.unusable("line", kind_read, "(p)", line=line)

    def test_line_is_passed_by_name_only(self):
        with self.assertRaises(TypeError):
            kind_read("p", 0)
        with self.assertRaises(TypeError):
            entry_read("f: p", 0)


class EntryReadTest(ReadingTest):
    def test_entries(self):
        for text in ENTRIES:
            self.assert_is(entry_read(text), tuple(text.split(": ")))
        self.assert_is(entry_read(line=5, text="f: (p -> q) -> p"), ("f", "(p -> q) -> p"))

    def test_columns(self):
        for text, column in (
            ("", 0), ("f", 1), ("f:", 2), ("f: ", 3), ("f:p", 2), ("f : p", 1), ("f:  p", 3), (": p", 0),
            ("abcdefghi: p", 8), ("F: p", 0), ("f: (p)", 5), ("f: p -> (q -> r)", 16), ("f: p\n", 4), ("\nf: p", 0),
            ("f: p, g: q", 4), ("f: p: q", 4), ("f: abcdefghi", 11), ("f p", 1), ("f\n: p", 1), ("1: p", 0),
        ):
            with self.subTest(text=text):
                self.assertEqual(entry_column(text), column)
                self.unread(0, column, entry_read, text)

    def test_changed_texts(self):
        for whole in ENTRIES:
            for text in changed_texts(whole):
                entry = entry_in(text)
                if entry is not None:
                    self.assert_is(entry_read(text), entry)
                else:
                    self.unread(0, entry_column(text), entry_read, text)

    def test_line_is_told(self):
        self.unread(12, 1, entry_read, "f", line=12)
        self.unread(SIXTY_DIGITS, 0, entry_read, "", line=SIXTY_DIGITS)

    def test_not_usable(self):
        for thing in NO_STRINGS:
            self.unusable("text", entry_read, thing)
            self.unusable("text", entry_read, thing, line=None)
        for line in NO_NUMBERS:
            self.unusable("line", entry_read, "f: p", line=line)
            self.unusable("line", entry_read, "", line=line)


class BookReadTest(ReadingTest):
    def test_books(self):
        self.assert_is(book_read(""), ())
        self.assert_is(book_read("a: p"), (("a", "p"),))
        self.assert_is(book_read(text="a: p\nb: p\nf: p -> p -> q"), (("a", "p"), ("b", "p"), ("f", "p -> p -> q")))
        self.assert_is(book_read("a: q\naa: p\nab: p"), (("a", "q"), ("aa", "p"), ("ab", "p")))

    def test_example(self):
        self.unread(1, 2, book_read, "ba: p\nba: q")

    def test_newlines(self):
        self.unread(0, 0, book_read, "\n")
        self.unread(0, 0, book_read, "\n\n")
        self.unread(0, 0, book_read, "\na: p")
        self.unread(1, 0, book_read, "a: p\n")
        self.unread(1, 0, book_read, "a: p\n\nb: p")
        self.unread(2, 0, book_read, "a: p\nb: p\n")
        self.unread(0, 4, book_read, "a: p) -> r\nb: p")

    def test_names_that_begin_alike(self):
        for before, row, column in (
            ("b", "a: p", 0), ("b", "b: p", 1), ("b", "ba", 2), ("ba", "b: p", 1), ("ba", "b", 1), ("ba", "a", 0),
            ("bb", "ba: p", 1), ("bb", "baz: p", 1), ("baaaaaaa", "ba: p", 2), ("baaaaaaa", "baaaaaaa: p", 7),
            ("bzzzzzzz", "b: p", 0), ("bzzzzzzz", "bz: p", 0), ("abzzzzzz", "abz: p", 1), ("abyzzzzz", "aby: p", 2),
            ("abyzzzzz", "abyzzzzz: p", 2), ("abyzzzzy", "abyzzzzy: p", 7), ("abyzzzzy", "abyzzzz: p", 7),
            ("zzzzzzzy", "zzzzzzzy: p", 7), ("zzzzzzz", "zzzzzzz: p", 7), ("abcdefgh", "abcdefghi: p", 7),
            ("abcdefgh", "abcdefgi", 8), ("abcdefgh", "abcdefgij: p", 8), ("b", "", 0), ("b", "1", 0), ("b", "b1", 1),
        ):
            with self.subTest(before=before, row=row):
                self.assertEqual(entry_column(row, before), column)
                self.unread(1, column, book_read, f"{before}: p\n{row}")

    def test_last_name_of_all(self):
        self.assert_is(book_read("a: p\nzzzzzzzz: p"), (("a", "p"), ("zzzzzzzz", "p")))
        for row in ("", "z", "zzzzzzzz: p", "zzzzzzzzz: p", "a: p", " ", "zzzzzzzz"):
            self.unread(1, 0, book_read, "zzzzzzzz: p\n" + row)

    def test_first_line_that_is_not_possible(self):
        self.unread(0, 5, book_read, "a: (p) -> q\na: p\n")
        self.unread(2, 1, book_read, "a: p\nb: p\nb: p\n(")

    def test_changed_texts(self):
        for whole in BOOKS:
            for text in changed_texts(whole):
                line, told = first_fault(text)
                if line is None:
                    self.assert_is(book_read(text), told)
                else:
                    self.unread(line, told, book_read, text)

    def test_not_usable(self):
        for thing in NO_STRINGS:
            self.unusable("text", book_read, thing)
        with self.assertRaises(TypeError):
            book_read("a: p", line=0)

    def test_any_string(self):
        for thing in ANY_VALUES:
            if isinstance(thing, str) and thing:
                line, column = first_fault(thing)
                self.unread(line, column, book_read, thing)


if __name__ == "__main__":
    unittest.main()
