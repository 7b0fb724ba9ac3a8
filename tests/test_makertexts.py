import unittest

from books import LIST, PAIR
from checks import Checks
from onlygiven.bookclasses import Book
from onlygiven.errors import InvalidText
from onlygiven.makerreadings import maker_read
from onlygiven.makertexts import maker_text, tree_rows
from oracles import changed_texts, maker_column, maker_in
from plainly import makers_of_size, wanted_places, wishes_of_all_sorts
from values import NO_BOOKS, NO_KINDS, NO_MAKERS

CONS = ("cons", ((0, ()), ("nil", ())))

MADE = [(book, wish, maker) for book, wish in wishes_of_all_sorts(27, 100, names=5, order=3)
        for size in range(1, 6) for maker in makers_of_size(book, wish, size)[:5]]


def text_of(maker):
    head, makers = maker
    return str(head) + ("(" + ", ".join(text_of(part) for part in makers) + ")" if makers else "")


def head_at(maker, place):
    for k in place:
        maker = maker[1][k]
    return maker[0]


class MakerTextTest(Checks):
    def test_examples(self):
        self.assert_is([maker_text(CONS), tree_rows(LIST, "p -> s", CONS)[1]],
                       ["cons(0, nil)", "  0                               1 p"])

    def test_written_out(self):
        for maker, text in (
            (("f", ()), "f"), ((0, ()), "0"), ((10 ** 60 - 1, ()), "9" * 60), ((0, ((0, ((1, ()),)),)), "0(0(1))"),
            (("f", (("a", (("b", ()),)), ("c", ()), ("d", (("e", ()), (12, ()))))), "f(a(b), c, d(e, 12))"),
        ):
            self.assert_gives(text, maker_text, maker=maker)
            self.assert_is(maker_read(text), maker)

    def test_there_and_back(self):
        texts = {}
        for book, wish, maker in MADE:
            text = text_of(maker)
            self.assert_gives(text, maker_text, maker=maker)
            self.assert_is(maker_read(text), maker)
            texts.setdefault((book, wish, text), maker)
            self.assertEqual(texts[book, wish, text], maker)

    def test_changed_texts_read_back(self):
        """Signs put in, left out and exchanged: what can be read is written back, and the rest is refused."""
        read = 0
        for text in sorted({text_of(maker) for _, _, maker in MADE}, key=lambda text: (-len(text), text))[:60:6]:
            for changed in changed_texts(text):
                maker = maker_in(changed)
                if maker is None:
                    self.assert_raises(InvalidText, {"line": 0, "column": maker_column(changed)}, maker_read, changed)
                else:
                    read += 1
                    self.assert_is(maker_read(changed), maker)
                    self.assert_is(maker_text(maker), changed)
        self.assertGreater(read, 100)

    def test_deep_and_wide(self):
        deep = (0, ())
        for _ in range(2000):
            deep = ("f", (deep,))
        self.assert_is(maker_text(deep), "f(" * 2000 + "0" + ")" * 2000)
        self.assert_is(maker_text(("f", (("a", ()),) * 2000)), "f(" + ", ".join(["a"] * 2000) + ")")

    def test_not_usable(self):
        self.check_parameters(maker_text, {"maker": CONS}, {"maker": NO_MAKERS})


class TreeRowsTest(Checks):
    def test_written_out(self):
        self.assert_gives([
            "cons" + " " * 28 + "  1 s", "  0" + " " * 29 + "  1 p", "  nil" + " " * 27 + "  1 s",
        ], tree_rows, book=LIST, wish="p -> s", maker=CONS)
        self.assert_gives(["a" + " " * 31 + "  0 p"], tree_rows, book=PAIR, wish="p", maker=("a", ()))

    def test_at_random(self):
        for book, wish, maker in MADE:
            places = wanted_places(book, wish, maker)
            rows = []
            for place in sorted(places):
                atom, hand = places[place]
                row = len(place) * "  " + str(head_at(maker, place))
                row += " " * (32 - len(row)) + " " * (3 - len(str(len(hand)))) + str(len(hand)) + " " + atom
                rows.append(row)
            self.assert_gives(rows, tree_rows, book=book, wish=wish, maker=maker)

    def test_long_rows(self):
        """A row with more than thirty-two characters ahead of the number is not filled, nor cut off."""
        book = (("abcdefgh", "p -> p"), ("x", "p"))
        maker = ("x", ())
        for _ in range(20):
            maker = ("abcdefgh", (maker,))
        rows = tree_rows(book, "p", maker)
        self.assert_is(rows[11:14], ["  " * 11 + "abcdefgh    0 p", "  " * 12 + "abcdefgh  0 p", "  " * 13 + "abcdefgh  0 p"])
        self.assert_is(rows[20], "  " * 20 + "x  0 p")

    def test_many_variables(self):
        for many in (9, 10, 99, 100, 999, 1000):
            wish = "p -> " * many + "p"
            self.assert_is(tree_rows((), wish, (0, ())), ["0" + " " * 31 + str(many).rjust(3) + " p"])

    def test_not_usable(self):
        self.check_parameters(tree_rows, {"book": LIST, "wish": "p -> s", "maker": CONS}, {
            "book": NO_BOOKS + [Book(LIST)], "wish": NO_KINDS,
            "maker": NO_MAKERS + [("cons", ((0, ()), (0, ()))), ("cons", ((0, ()),)), (0, ()), (1, ())]})


if __name__ == "__main__":
    unittest.main()
