import unittest

from checks import Checks
from onlygiven.errors import InvalidText, NotUsable
from onlygiven.kinds import is_maker
from onlygiven.makerreadings import maker_read
from oracles import changed_texts, maker_column, maker_in
from values import ANY_VALUES, NO_STRINGS

TEXTS = ("f", "0", "10", "f(a)", "cons(0, nil)", "f(a, g(0))", "0(0(1), 20(a, b(c)))", "abcdefgh(12)", "f(g(h(0)))")

SIXTY = "1" + "0" * 59


class MakerReadTest(Checks):
    def unread(self, column, text):
        self.assert_raises(InvalidText, {"line": 0, "column": column}, maker_read, text)

    def test_makers(self):
        self.assert_is(maker_read("f"), ("f", ()))
        self.assert_is(maker_read("0"), (0, ()))
        self.assert_is(maker_read("907"), (907, ()))
        self.assert_is(maker_read(text="cons(0, nil)"), ("cons", ((0, ()), ("nil", ()))))
        self.assert_is(maker_read("0(0(1))"), (0, ((0, ((1, ()),)),)))
        self.assert_is(maker_read("f(a(b), c, d(e(0), 1))"), (
            "f", (("a", (("b", ()),)), ("c", ()), ("d", (("e", ((0, ()),)), (1, ()))))))

    def test_examples(self):
        self.assert_is(maker_read("f(a, g(0))"), ("f", (("a", ()), ("g", ((0, ()),)))))
        self.unread(4, "f(a,g)")
        self.unread(3, "f(a")

    def test_columns(self):
        for text, column in (
            ("", 0), (" ", 0), (" f", 0), ("f ", 1), ("F", 0), ("f(", 2), ("f()", 2), ("f)", 1), ("f(a))", 4),
            ("f(a,", 4), ("f(a, ", 5), ("f(a,  b)", 5), ("f(a , b)", 3), ("f(a, )", 5), ("f(a, b", 6), ("f(,a)", 2),
            ("f(a)(b)", 4), ("f(a)b", 4), ("f (a)", 1), ("f( a)", 2), ("f(a )", 3), ("f, g", 1), ("(f)", 0),
            (")", 0), (",", 0), ("f\n", 1), ("\nf", 0), ("f(a,\n b)", 4), ("f(a)\n", 4), ("f1", 1), ("1f", 1),
            ("fG", 1), ("-1", 0), ("+1", 0), ("f(-1)", 2), ("1_0", 1), ("1.0", 1), ("abcdefghi", 8),
            ("f(abcdefghi)", 10), ("abcdefghi(a)", 8), ("f(g(a)", 6), ("f(g(a), ", 8), ("f(g(a)h)", 6),
        ):
            with self.subTest(text=text):
                self.assertEqual(maker_column(text), column)
                self.unread(column, text)

    def test_numbers(self):
        self.assert_is(maker_read(SIXTY), (10 ** 59, ()))
        self.assert_is(maker_read("9" * 60), (10 ** 60 - 1, ()))
        self.assert_is(maker_read("f(" + SIXTY + ", 0)"), ("f", ((10 ** 59, ()), (0, ()))))
        self.assert_is(maker_read(SIXTY + "(0)"), (10 ** 59, ((0, ()),)))
        self.unread(60, SIXTY + "0")
        self.unread(60, "9" * 61)
        self.unread(62, "f(" + SIXTY + "0)")
        self.unread(60, SIXTY + "0(a)")

    def test_leading_zeros(self):
        self.assert_is(maker_read("0(0, 100)"), (0, ((0, ()), (100, ()))))
        for text, column in (("00", 1), ("01", 1), ("007", 1), ("f(01)", 3), ("f(0, 00)", 6), ("0" * 61, 1), ("00(a)", 1)):
            self.unread(column, text)

    def test_changed_texts(self):
        for whole in TEXTS:
            for text in changed_texts(whole):
                maker = maker_in(text)
                if maker is None:
                    self.unread(maker_column(text), text)
                else:
                    self.assert_is(maker_read(text), maker)
                    self.assertTrue(is_maker(maker_read(text)))

    def test_changed_long_number(self):
        for text in changed_texts("f(" + SIXTY + ")"):
            maker = maker_in(text)
            if maker is None:
                self.unread(maker_column(text), text)
            else:
                self.assert_is(maker_read(text), maker)

    def test_deep_and_wide(self):
        deep, text = (0, ()), "0"
        for _ in range(60):
            deep, text = ("f", (deep,)), f"f({text})"
        self.assert_is(maker_read(text), deep)
        for k in range(2, len(text)):
            self.unread(k, text[:k])
        wide = "f(" + "a, " * 1000 + "b)"
        self.assert_is(maker_read(wide), ("f", (("a", ()),) * 1000 + (("b", ()),)))

    def test_beyond_what_nests_in_calls(self):
        maker = maker_read("f(" * 3000 + "0" + ")" * 3000)
        for _ in range(3000):
            head, (maker,) = maker
            self.assertEqual(head, "f")
        self.assert_is(maker, (0, ()))

    def test_not_usable(self):
        for thing in NO_STRINGS:
            self.assert_raises(NotUsable, {"word": "text", "at": -1}, maker_read, thing)

    def test_any_string(self):
        for thing in ANY_VALUES:
            if isinstance(thing, str) and maker_in(thing) is None:
                self.unread(maker_column(thing), thing)


if __name__ == "__main__":
    unittest.main()
