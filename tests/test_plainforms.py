import inspect
import random
import unittest

from books import PAIR
from checks import Checks
from makerly import CHURCH, fault_of, numeral, random_maker
from onlygiven.bookclasses import Book
from onlygiven.plainforms import applied, are_alike, plain_of
from plainly import kind_of_tree, makers_of_size, random_book, random_kind, tree_of, wishes_of_all_sorts
from termly import all_inner, changed_term, drawn_terms, plain_by_values, plain_kind, term_fault, terms_for, written_out
from test_termchecker import NO_TERMS
from values import ANY_VALUES, NO_BOOKS, NO_KINDS, NO_MAKERS, nested

TERM = ("call", ("fun", (("x", "p"),), ("call", "f", ("x",))), ("b",))

WISHES = wishes_of_all_sorts(24, 90, names=5) + wishes_of_all_sorts(241, 60, names=4, order=3)

MADE = [(book, wish, maker) for book, wish in WISHES
        for size in range(1, 6) for maker in makers_of_size(book, wish, size)[:3]]

# Doubles what is handed to it, in a term.
TWICE = ("fun", (("s", "p -> p"), ("z", "p")), ("call", "s", (("call", "s", ("z",)),)))


def cases(seed, count, parts=3):
    """Books and wishes with parts, a maker, and makers of some of the parts."""
    rng, found = random.Random(seed), []
    while len(found) < count:
        book, wish = random_book(rng, 4, 4, ("p", "q"), 2), random_kind(rng, 6, ("p", "q"), 3)
        maker, rows = random_maker(rng, book, wish, 4), [kind_of_tree(tree) for tree in tree_of(wish)[0]]
        others = [random_maker(rng, book, row, 4) for row in rows[:rng.randint(0, parts)]]
        if maker is not None and rows and None not in others:
            found.append((book, wish, maker, others))
    return found


def call_written_out(book, wish, maker, others):
    """The term of the call, all variables of which are called otherwise."""
    names = ["".join(("v", one, two)) for one in "abcdefghij" for two in "abcdefghij"]
    rows = [kind_of_tree(tree) for tree in tree_of(wish)[0]]
    given = tuple(written_out(book, row, other, names) for row, other in zip(rows, others))
    term = written_out(book, wish, maker, names)
    return ("call", term, given) if given else term


class PlainFormsTest(Checks):
    def test_examples(self):
        self.assert_gives(("f", (("b", ()), (0, ()))), plain_of, book=PAIR, term=TERM)
        self.assert_gives(True, are_alike, book=PAIR, term=TERM, other=("call", "f", ("b",)))
        self.assert_gives(False, are_alike, book=PAIR, term=TERM, other=("call", "f", ("a",)))

    def test_written_out(self):
        book = (("f", "(p -> q) -> p"), ("g", "p -> q"), ("x", "p"))
        fun = lambda name, kind, term: ("fun", ((name, kind),), term)
        for term, maker in (
            ("x", ("x", ())), ("g", ("g", ((0, ()),))), ("f", ("f", ((0, ((1, ()),)),))),
            # What would be captured: x outside is another one than x inside.
            (fun("x", "p", ("call", fun("y", "p", fun("x", "p", "y")), ("x",))), (0, ())),
            (fun("x", "p", ("call", fun("x", "p", fun("y", "p", "x")), ("x",))), (0, ())),
            (("call", fun("y", "p", fun("x", "p", "y")), ("x",)), ("x", ())), (fun("x", "p", "x"), (0, ())),
            (fun("g", "p", "g"), (0, ())), (("call", fun("g", "p", "g"), ("x",)), ("x", ())),
            (("call", fun("x", "p -> q", ("call", "f", ("x",))), ("g",)), ("f", (("g", ((0, ()),)),))),
            (("call", ("fun", (("x", "p"), ("y", "p")), "y"), ("x", ("call", "f", ("g",)))), ("f", (("g", ((0, ()),)),))),
            (("call", ("fun", (("x", "p"), ("y", "p")), "x"), ("x",)), ("x", ())),
        ):
            with self.subTest(term=term):
                self.assertEqual(plain_by_values(book, term), maker)
                self.assert_gives(maker, plain_of, book=book, term=term)

    def test_terms_of_makers(self):
        """Written in several ways, their plain form is the maker, and they are alike to each other."""
        rng, count = random.Random(24), 0
        for book, wish, maker in MADE:
            terms = terms_for(rng, book, wish, maker, 4)
            for term in terms:
                self.assertEqual(plain_by_values(book, term), maker)
                self.assert_gives(maker, plain_of, book=book, term=term)
                self.assert_gives(True, are_alike, book=book, term=terms[-1], other=term)
                count += term != terms[0]
        self.assertGreater(count, 600)

    def test_unlike_makers(self):
        rng = random.Random(242)
        for book, wish in WISHES[::2]:
            makers = [maker for size in range(1, 5) for maker in makers_of_size(book, wish, size)[:3]]
            terms = [terms_for(rng, book, wish, maker, 1)[-1] for maker in makers]
            for one, term in zip(makers, terms):
                for two, other in zip(makers, terms):
                    self.assert_gives(one == two, are_alike, book=book, term=term, other=other)

    def test_changed_terms(self):
        """What is right is some other term then, of whatever kind."""
        rng, met = random.Random(243), {}
        for book, wish, maker in MADE:
            for term in terms_for(rng, book, wish, maker, 5, 4):
                changed = changed_term(rng, book, term)
                fault = term_fault(book, changed)
                if fault is not None:
                    self.assert_unusable("term", -1, plain_of, book, changed)
                    self.assert_unusable("term", -1, are_alike, book, changed, term)
                    self.assert_unusable("other", -1, are_alike, book, term, changed)
                    word = "wrong"
                else:
                    plain = plain_by_values(book, changed)
                    kind = plain_kind(book, changed)
                    self.assert_is(plain_of(book, changed), plain)
                    self.assertIsNone(fault_of(book, kind, plain))
                    word = "unlike" if plain != maker else "alike"
                    if kind == wish:
                        self.assert_is(are_alike(book, term, changed), plain == maker)
                    else:
                        word = "other kind"
                        self.assert_unusable("other", -1, are_alike, book, term, changed)
                met[word] = met.get(word, 0) + 1
        self.assertEqual(len(met), 4)
        self.assertGreater(min(met.values()), 8, met)

    def test_drawn_terms(self):
        """Calls of funs in calls of funs, with functions as what is handed to them."""
        longest = 0
        for book, kind, term in drawn_terms(246, 500):
            self.assertIsNone(term_fault(book, term))
            plain = plain_by_values(book, term)
            self.assert_gives(plain, plain_of, book=book, term=term)
            self.assertIsNone(fault_of(book, kind, plain))
            longest = max(longest, len(all_inner(term)))
        self.assertGreater(longest, 60)

    def test_what_a_book_has_besides(self):
        rng = random.Random(244)
        for book, wish, maker in MADE[::3]:
            more = tuple(sorted((*book, ("q", "p -> q"))))
            for term in terms_for(rng, book, wish, maker, 1):
                self.assertEqual(plain_of(more, term), maker)

    def test_great(self):
        two = "(p -> p) -> p -> p"
        self.assertEqual(plain_of((), TWICE), numeral(2))
        term = nested(5, lambda inner: ("fun", (("s", "p -> p"),), ("call", TWICE, (("call", inner[0], ("s",)),))), TWICE)
        self.assertEqual(plain_of((), term), numeral(64))
        self.assertEqual(plain_kind((), term), two)
        # As many steps as that, and nothing is left of them.
        term = nested(12, lambda inner: ("fun", (("s", "p -> p"),), ("call", TWICE, (("call", inner[0], ("s",)),))), TWICE)
        self.assertEqual(plain_of((), ("call", term, (("fun", (("x", "p"),), "x"),))), (0, ()))
        deep = nested(1500, lambda inner: ("call", "f", (inner[0],)), "x")
        maker = plain_of((("f", "p -> p"), ("x", "p")), deep)
        for _ in range(1500):
            self.assertEqual(maker[0], "f")
            maker, = maker[1]
        self.assertEqual(maker, ("x", ()))
        other = nested(1500, lambda inner: ("call", "f", (inner[0],)), ("call", "f", ("x",)))
        self.assert_is([are_alike((("f", "p -> p"), ("x", "p")), deep, thing) for thing in (deep, other)], [True, False])
        chain = nested(400, lambda inner: ("call", ("fun", (("x", "p"),), inner[0]), ("x",)), "x")
        self.assertEqual(plain_of((("x", "p"),), chain), ("x", ()))

    def test_not_usable(self):
        wrong = {"book": NO_BOOKS + [Book(PAIR)], "term": NO_TERMS}
        self.check_parameters(plain_of, {"book": PAIR, "term": "a"}, wrong)
        others = NO_TERMS + ["f", ("call", "f", ("a",)), ("fun", (("x", "p"),), "x")]
        self.check_parameters(are_alike, {"book": PAIR, "term": "a", "other": "b"}, {**wrong, "other": others})


class AppliedTest(Checks):
    def applies(self, expected, book, wish, maker, *others):
        self.assert_is(applied(book, wish, maker, *others), expected)
        if not others:
            self.assert_is(applied(book=book, wish=wish, maker=maker), expected)

    def test_example(self):
        self.applies((0, ()), (), CHURCH, (0, ((0, ((1, ()),)),)), (0, ()))

    def test_parameters(self):
        self.assertEqual(str(inspect.signature(applied)), "(book, wish, maker, *others)")

    def test_at_once_and_in_steps(self):
        many = 0
        for book, wish, maker, others in cases(245, 250):
            expected = plain_by_values(book, call_written_out(book, wish, maker, others))
            self.applies(expected, book, wish, maker, *others)
            parts = [kind_of_tree(tree) for tree in tree_of(wish)[0]]
            kind = lambda k: " -> ".join([f"({part})" if "-" in part else part for part in parts[k:]] + [tree_of(wish)[1]])
            self.assertIsNone(fault_of(book, kind(len(others)), expected))
            stepped = maker
            for k, other in enumerate(others):
                stepped = applied(book, kind(k), stepped, other)
            self.assertEqual(stepped, expected)
            for k in range(len(others)):
                halved = applied(book, kind(k), applied(book, wish, maker, *others[:k]), *others[k:])
                self.assertEqual(halved, expected)
            self.applies(maker, book, wish, maker)
            many += len(others)
        self.assertGreater(many, 150)

    def test_numerals(self):
        """The numeral of a function that is applied so often."""
        book = (("s", "p -> p"), ("z", "p"))
        for number in range(6):
            row = ("z", ())
            for _ in range(number):
                row = ("s", (row,))
            self.applies(row, book, CHURCH, numeral(number), ("s", ((0, ()),)), ("z", ()))
            self.applies(("s", ((0, ()),)) if number == 1 else applied(book, CHURCH, numeral(number), ("s", ((0, ()),))),
                         book, CHURCH, numeral(number), ("s", ((0, ()),)))
        power = f"({CHURCH}) -> {CHURCH}"
        square = (0, ((0, ((1, ((2, ()),)),)), (2, ())))
        self.assertIsNotNone(fault_of((), power, square))
        square = (0, ((0, ((1, ((4, ()),)), (3, ()))), (2, ())))
        self.assertIsNone(fault_of((), power, square))
        for number in range(4):
            self.applies(numeral(number * number), (), power, square, numeral(number))

    def test_wrong_others(self):
        book, wish = PAIR, "p -> (p -> q) -> p -> q"
        maker, right = (1, ((0, ()),)), [("a", ()), ("f", ((0, ()), ("b", ()))), ("b", ())]
        self.applies(("f", (("a", ()), ("b", ()))), book, wish, maker, *right)
        for k in range(3):
            for thing in ANY_VALUES + NO_MAKERS + [("f", (("a", ()),)), (3, ()), ("zz", ()), Book()]:
                fits = k != 1 and thing in (("a", ()), ("b", ())) or k == 1 and fault_of(book, "p -> q", thing) is None
                if not fits:
                    self.assert_unusable("others", k, applied, book, wish, maker, *right[:k], thing, *right[k + 1:])
                    self.assert_unusable("others", k, applied, book, wish, maker, *right[:k], thing, thing, None)
        for thing in (("a", ()), None, ("f", ())):
            self.assert_unusable("others", 3, applied, book, wish, maker, *right, thing)
            self.assert_unusable("others", 0, applied, book, "p", ("a", ()), thing)
            self.assert_unusable("others", 3, applied, book, wish, maker, *right, thing, thing)
        self.assert_unusable("maker", -1, applied, book, wish, ("a", ()), None)
        self.assert_unusable("wish", -1, applied, book, "(p)", ("a", ()), None)
        self.assert_unusable("book", -1, applied, list(book), "(p)", ("a", ()), None)

    def test_not_usable(self):
        self.check_parameters(applied, {"book": PAIR, "wish": "q", "maker": ("f", (("a", ()), ("b", ())))}, {
            "book": NO_BOOKS + [Book(PAIR)], "wish": NO_KINDS,
            "maker": NO_MAKERS + [("a", ()), ("f", (("a", ()),)), ("f", (("a", ()), (0, ())))]})


if __name__ == "__main__":
    unittest.main()
