import copy
import unittest

from onlygiven.kinds import (
    is_book, is_entry, is_integer, is_kind, is_maker, is_name, is_number, is_stand, is_term,
)
from oracles import changed_texts, is_kind_text
from values import ANY_VALUES, SIXTY_DIGITS, nested

FORMS = {
    "integer": is_integer, "number": is_number, "name": is_name, "kind": is_kind, "entry": is_entry,
    "book": is_book, "maker": is_maker, "term": is_term, "stand": is_stand,
}

PAIR = (("a", "p"), ("b", "p"), ("f", "p -> p -> q"))
ROUND = (("f", "p -> q"), ("g", "q -> p"))
LIST = (("cons", "p -> s -> s"), ("nil", "s"))
PEIRCE = "((p -> q) -> p) -> p"

DEEP_MAKER = (0, ())
for _ in range(19):
    DEEP_MAKER = ("f", (DEEP_MAKER,))

DEEP_CALL = "f"
for _ in range(39):
    DEEP_CALL = ("call", DEEP_CALL, ("a",))

DEEP_FUN = "x"
for _ in range(39):
    DEEP_FUN = ("fun", (("x", "p"),), DEEP_FUN)

DEEP_KIND = "p"
for _ in range(60):
    DEEP_KIND = f"({DEEP_KIND} -> p) -> q"

# Each value with all forms that it has.
TABLE = [
    (0, "integer number"), (1, "integer number"), (-1, "integer"), (SIXTY_DIGITS, "integer number"),
    (-SIXTY_DIGITS, "integer"), (True, ""), (False, ""), (None, ""),
    # names of one, eight and nine letters
    ("p", "name kind term"), ("call", "name kind term"), ("fun", "name kind term"), ("abcdefgh", "name kind term"),
    ("zzzzzzzz", "name kind term"), ("abcdefghi", ""), ("", ""), ("P", ""), ("aB", ""), ("a1", ""), ("1", ""),
    ("a_b", ""), ("a b", ""), (" a", ""), ("a ", ""), ("a\n", ""), ("\na", ""), ("a-b", ""), ("a'", ""),
    ("`", ""), ("{", ""), ("a{", ""), ("p:", ""), ("~", ""),
    # kinds
    ("p -> q", "kind"), ("abcdefgh -> abcdefgh", "kind"), ("abcdefghi -> p", ""), ("p -> abcdefghi", ""),
    ("(p -> q) -> p", "kind"), (PEIRCE, "kind"), (DEEP_KIND, "kind"), ("p -> " * 500 + "q", "kind"),
    ("(p -> q) -> (q -> p) -> r", "kind"), ("((a -> b) -> (c -> d) -> e) -> f", "kind"),
    ("p -> (q -> r) -> s", "kind"),
    ("(p)", ""), ("(p) -> q", ""), ("p -> (q)", ""), ("((p -> q)) -> p", ""), ("(p -> q)", ""),
    ("p -> (q -> r)", ""), ("(p -> (q)) -> r", ""), ("((p) -> q) -> r", ""), ("(p -> (q -> r)) -> s", ""),
    ("() -> p", ""), ("()", ""), ("(", ""), (")", ""), ("(p -> q -> p", ""), ("p -> q) -> p", ""),
    ("(p -> q)) -> p", ""), ("((p -> q) -> p", ""), (")p -> q( -> p", ""), ("p(q -> r) -> s", ""),
    ("(p -> q)r -> s", ""), ("(p -> q) p", ""), ("p (q -> r) -> s", ""),
    ("p ->", ""), ("p -> ", ""), ("-> p", ""), (" -> p", ""), ("p -> -> q", ""), ("p ->  -> q", ""),
    ("p->q", ""), ("p ->q", ""), ("p-> q", ""), ("p  -> q", ""), ("p ->  q", ""), ("p - > q", ""), ("p > q", ""),
    ("p - q", ""), ("p q", ""), ("p -> q ", ""), (" p -> q", ""), ("p -> q\n", ""), ("p\n-> q", ""),
    ("(p -> q) ->", ""), ("( p -> q) -> r", ""), ("(p -> q ) -> r", ""), ("p -> Q", ""), ("p -> 0", ""),
    # entries
    (("a", "p"), "entry"), (("call", "p"), "entry"), (("abcdefgh", PEIRCE), "entry"), (["a", "p"], ""),
    (("a", "p", "q"), ""), (("a",), ""), (("abcdefghi", "p"), ""), (("a", "(p)"), ""), (("", "p"), ""),
    (("a", ""), ""), (("a", ("p",)), ""), ((("a",), "p"), "stand"), (("a", None), ""), ((0, "p"), ""),
    (("p -> q", "p"), ""), ("ap", "name kind term"),
    # books
    ((), "book"), (PAIR, "book"), (ROUND, "book"), (LIST, "book"), ((("a", "p"),), "book"), ([], ""),
    (list(PAIR), ""), ((["a", "p"],), ""), (PAIR[::-1], ""), (PAIR + PAIR[:1], ""), (PAIR[:1] * 2, ""),
    ((("a", "p"), ("a", "q")), ""), ((("a", "q"), ("a", "p")), ""), ((("b", "p"), ("a", "p")), ""),
    ((("a", "p"), ("aa", "p"), ("b", "p")), "book"), ((("aa", "p"), ("a", "p")), ""),
    ((("a", "q"), ("b", "p")), "book"), (PAIR + (None,), ""), ((None,), ""), ((("a", "p"), ("b", "(p)")), ""),
    ((("ab", "p"), ("b", "p"), ("ba", "p")), "book"),
    # makers
    (("f", ()), "maker"), ((0, ()), "maker"), ((SIXTY_DIGITS, ()), "maker"), ((True, ()), ""), ((False, ()), ""),
    ((-1, ()), ""), ((None, ()), ""), (("abcdefghi", ()), ""), (("p -> q", ()), ""), (("0", ()), ""),
    (("f", []), ""), (["f", ()], ""), (("f",), ""), (("f", (), ()), ""), (("f", ("a",)), ""),
    (("f", (("a", ()), (0, ()))), "maker"), (("f", (("a", ()), (True, ()))), ""), (("f", (("a", ()), [0, ()])), ""),
    (("f", [("a", ())]), ""), (("f", (("a", ((),)),)), ""), (("f", (("a", (("b", None),)),)), ""),
    ((0, ((0, ((1, ()),)),)), "maker"), (DEEP_MAKER, "maker"), (("f", (("a", ()),) * 1000), "maker"),
    (("f", (("a", ()),) * 1000 + (0,)), ""),
    # terms
    (("call", "f", ("a",)), "term"), (("call", "f", ("a", "b")), "term"), (("call", "f", ()), ""),
    (("call", "f", ["a"]), ""), (["call", "f", ("a",)], ""), (("call", "f"), "entry"), (("call", "f", "a"), ""),
    (("call", "f", ("a",), ("a",)), ""), (("call", 0, ("a",)), ""), (("call", "f", (0,)), ""),
    (("call", "f", ("a", ("gap",))), ""), (("gap",), ""), (("Call", "f", ("a",)), ""), ((0, "f", ("a",)), ""),
    (("call", ("call", "f", ("a",)), (("call", "g", ("b",)), "c")), "term"), (("call", "abcdefghi", ("a",)), ""),
    (("call", "p -> q", ("a",)), ""), (("call", "call", ("fun",)), "term"),
    (("fun", (("x", "p"),), "x"), "term"), (("fun", (("y", "p"), ("x", "p -> q")), "z"), "term"),
    (("fun", (("x", "p"), ("x", "q")), "x"), ""), (("fun", (("x", "p"), ("y", "p"), ("x", "p")), "x"), ""),
    (("fun", (), "x"), ""), (("fun", [("x", "p")], "x"), ""), (("fun", (["x", "p"],), "x"), ""),
    (("fun", ("x", "p"), "x"), ""), (("fun", (("x", "(p)"),), "x"), ""), (("fun", (("X", "p"),), "x"), ""),
    (("fun", (("x", "p"),)), ""), (("fun", (("x", "p"),), "x", "x"), ""), (("fun", (("x", "p"),), None), ""),
    (("fun", (("x", "p"),), ("fun", (("x", "q"),), ("call", "x", ("x",)))), "term"), (DEEP_CALL, "term"),
    (DEEP_FUN, "term"), (("fun", "x", (("x", "p"),)), ""), (("fun", (([], "p"),), "x"), ""),
    # stands
    (((), "p"), "stand"), ((("p",), "q"), "stand"), ((("(p -> q) -> p", "p"), "p"), "stand"),
    ((("p", "p -> q"), "q"), "stand"), ((("p -> q", "p"), "q"), ""), ((("p", "p"), "q"), ""),
    ((("p", "(p -> q) -> p"), "q"), ""), ((("p",), "p -> q"), ""), ((("p",), "abcdefghi"), ""), ((["p"], "q"), ""),
    ([("p",), "q"], ""), ((("p",),), ""), ((("p",), "q", "r"), ""), ((("(p)",), "q"), ""), (((None,), "q"), ""),
    (((1, 2), "q"), ""), ((("p", 1), "q"), ""), (("p", "q"), "entry"), (((), None), ""), (((), ""), ""),
    (((("p",),), "q"), ""),
    # values of no form
    (((),), ""), ([()], ""), (([], []), ""), (nested(40, tuple, "p"), ""), (nested(40, list, "p"), ""),
    (nested(39, tuple, ()), ""), (nested(40, tuple, ("a", "p")), ""), (tuple([True, 1] * 2500), ""),
    (nested(20, tuple, nested(20, list, 1)), ""), ((None, None), ""), ((True, True, True), ""),
]


class KindsTest(unittest.TestCase):
    def test_table(self):
        for value, forms in TABLE:
            for form, function in FORMS.items():
                with self.subTest(value=value, form=form):
                    self.assertIs(function(value), form in forms.split())

    def test_by_name(self):
        for function in FORMS.values():
            self.assertIs(function(thing=None), False)
        self.assertIs(is_name(thing="p"), True)

    def test_any_value_is_answered_and_not_changed(self):
        for value in ANY_VALUES:
            before = copy.deepcopy(value)
            for function in FORMS.values():
                self.assertIn(function(value), (True, False))
                self.assertIs(type(function(value)), bool)
            self.assertEqual(value, before)

    def test_other_objects(self):
        for function in FORMS.values():
            self.assertIs(function(object()), False)
            self.assertIs(function(b"p"), False)
            self.assertIs(function({"p": "q"}), False)

    def test_each_single_character(self):
        for code in [10] + list(range(32, 127)):
            letter = chr(code)
            is_letter = letter in "abcdefghijklmnopqrstuvwxyz"
            self.assertIs(is_name(letter), is_letter)
            self.assertIs(is_name("p" + letter), is_letter)
            self.assertIs(is_kind(letter), is_letter)
            self.assertIs(is_kind("p -> " + letter), is_letter)

    def test_name_lengths(self):
        for length in range(12):
            self.assertIs(is_name("z" * length), 1 <= length <= 8)
            self.assertIs(is_kind("(p -> " + "z" * length + ") -> q"), 1 <= length <= 8)

    def test_changed_kinds(self):
        for kind in ("p", "p -> q", "(p -> q) -> p", PEIRCE, "abcdefgh -> (a -> b) -> c"):
            for text in changed_texts(kind):
                self.assertIs(is_kind(text), is_kind_text(text), text)
                self.assertIs(is_entry(("f", text)), is_kind_text(text), text)
                self.assertIs(is_stand(((text,), "p")), is_kind_text(text), text)

    def test_values_beyond_what_nests_in_calls(self):
        maker, term, kind = (0, ()), "f", "p"
        for _ in range(3000):
            maker = ("f", (maker,))
            term = ("call", term, ("a",))
            kind = f"({kind} -> p) -> p" if kind == "p" else f"({kind}) -> p"
        self.assertIs(is_maker(maker), True)
        self.assertIs(is_term(term), True)
        self.assertIs(is_kind(kind), True)
        self.assertIs(is_kind(kind[1:]), False)

    def test_book_of_many_names(self):
        names = sorted(a + b for a in "abcdefghij" for b in "klmnopqrst")
        book = tuple((name, "p -> q") for name in names)
        self.assertIs(is_book(book), True)
        for k in range(len(book) - 1):
            self.assertIs(is_book(book[:k] + (book[k + 1], book[k]) + book[k + 2:]), False)


if __name__ == "__main__":
    unittest.main()
