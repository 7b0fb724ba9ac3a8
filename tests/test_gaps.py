import random
import unittest

from books import LIST, PAIR
from checks import Checks, same_kind
from makerly import CHURCH
from onlygiven.bookclasses import Book
from onlygiven.errors import NotOne, NotUsable
from onlygiven.gaps import filled_term
from onlygiven.judging import smallest_maker
from plainly import kind_of_tree, makers_of_size, number_of_makers, random_kind, tree_of, trees_in, wishes_of_all_sorts
from termly import (
    all_inner, changed_term, inner_of, is_plainly_a_call, is_plainly_a_fun, plain_by_values, plain_kind, term_at, term_fault,
    terms_for, with_term_at,
)
from values import ANY_VALUES, NO_BOOKS, NO_KINDS, is_plainly_a_name, nested

GAP = ("gap",)

WISHES = (
    wishes_of_all_sorts(58, 130, names=5) + wishes_of_all_sorts(581, 80, names=4, order=3)
    + wishes_of_all_sorts(582, 60, names=3, atoms=("p", "q", "r", "s"), size=3, order=2)
)

MADE = [(book, wish, maker) for book, wish in WISHES
        for size in range(1, 6) for maker in makers_of_size(book, wish, size)[:3]]


def is_form(term):
    """Whether it is a term by form, gaps aside."""
    if same_kind(term, GAP) or is_plainly_a_name(term):
        return True
    return (is_plainly_a_call(term) or is_plainly_a_fun(term)) and all(map(is_form, inner_of(term)))


class Unfit(Exception):
    pass


def need(fits):
    if not fits:
        raise Unfit()


def look_for_names(gaps, known, term, place):
    if term == GAP:
        gaps.append((place, known, None))
    elif isinstance(term, str):
        need(term in known)
    else:
        own = {name: tree_of(kind) for name, kind in term[1]} if term[0] == "fun" else {}
        for k, inner in enumerate(inner_of(term)):
            look_for_names(gaps, {**known, **own}, inner, (*place, k))


def kind_told(gaps, known, term, place, want):
    """The kind of a term that is wanted at a tree, or not, with None; None if it has none. The gaps come into the list."""
    if term == GAP:
        gaps.append((place, known, want))
        return want
    if isinstance(term, str):
        need(term in known)
        kind = known[term]
    elif term[0] == "call":
        function = kind_told(gaps, known, term[1], (*place, 0), None)
        if function is None:
            for k, inner in enumerate(term[2]):
                look_for_names(gaps, known, inner, (*place, k + 1))
            return None
        need(len(term[2]) <= len(function[0]))
        for k, (inner, part) in enumerate(zip(term[2], function[0])):
            kind_told(gaps, known, inner, (*place, k + 1), part)
        kind = function[0][len(term[2]):], function[1]
    else:
        own = [tree_of(kind) for _, kind in term[1]]
        inside = {**known, **dict(zip(dict(term[1]), own))}
        if want is None:
            inner = kind_told(gaps, inside, term[2], (*place, 0), None)
            return inner and ((*own, *inner[0]), inner[1])
        need(want[0][:len(own)] == tuple(own))
        kind_told(gaps, inside, term[2], (*place, 0), (want[0][len(own):], want[1]))
        return want
    need(want is None or want == kind)
    return kind


def book_of(known):
    return tuple(sorted((name, kind_of_tree(tree)) for name, tree in known.items()))


def expected(book, term, kind):
    """The error that is due, with its fields; or None and the gaps, each with its place, its book and its kind."""
    if not is_form(term):
        return NotUsable, {"word": "term", "at": -1}
    gaps = []
    try:
        kind_told(gaps, dict(trees_in(book)), term, (), tree_of(kind))
    except Unfit:
        return NotUsable, {"word": "term", "at": -1}
    gaps.sort(key=lambda gap: gap[0])
    for place, _, want in gaps:
        if want is None:
            return NotUsable, {"word": "gap", "at": place}
    gaps = [(place, book_of(known), kind_of_tree(want)) for place, known, want in gaps]
    for place, own, want in gaps:
        number = number_of_makers(own, want)
        if number != 1:
            return NotOne, {"place": place, "number": number}
    return None, gaps


def with_gaps(rng, term, many):
    for _ in range(many):
        place = rng.choice(all_inner(term))[0]
        term = with_term_at(term, place, GAP)
    return term


class GapsTest(Checks):
    def judged(self, book, term, kind):
        """What became of it, in a word."""
        error, told = expected(book, term, kind)
        if error is not None:
            self.assert_raises(error, told, filled_term, book, term, kind)
            self.assert_raises(error, told, filled_term, book=book, term=term, kind=kind)
            return told["word"] if error is NotUsable else {0: "none", None: "endless"}.get(told["number"], "some")
        filled = filled_term(book, term, kind)
        self.assert_gives(filled, filled_term, book=book, term=term, kind=kind)
        back = filled
        for place, own, want in gaps_last_first(told):
            piece = term_at(filled, place)
            self.assertIsNone(term_fault(own, piece))
            self.assertEqual(plain_kind(own, piece), want)
            self.assertEqual(plain_by_values(own, piece), smallest_maker(own, want))
            back = with_term_at(back, place, GAP)
        self.assert_is(back, term)
        self.assertIsNone(term_fault(book, filled))
        self.assertEqual(plain_kind(book, filled), kind)
        return "filled" if told else "no gap"

    def test_example(self):
        self.assert_raises(NotOne, {"place": (2,), "number": 2}, filled_term, PAIR, ("call", "f", ("a", GAP)), "q")

    def test_written_out(self):
        fun = lambda name, kind, term: ("fun", ((name, kind),), term)
        book = (("a", "p"), ("f", "p -> q"), ("g", "(p -> q) -> r"))
        for term, kind, word in (
            (GAP, "q", "filled"), (GAP, "r", "some"), (GAP, "s", "none"), (GAP, "p -> p", "some"), (GAP, "s -> s", "filled"),
            (("call", "f", (GAP,)), "q", "filled"), (("call", "f", (GAP,)), "r", "term"), (("call", "g", (GAP,)), "r", "some"),
            (("call", "g", ("f",)), "r", "no gap"), ("f", "p -> q", "no gap"), ("f", "q", "term"), ("a", "p -> p", "term"), ("b", "p", "term"),
            (("call", GAP, ("a",)), "q", "gap"), (("call", GAP, ("b",)), "q", "term"), (("call", GAP, (("call", "a", ("a",)),)), "q", "gap"),
            (("call", GAP, (("call", "f", ("f",)),)), "q", "gap"), (("call", ("call", GAP, ("a",)), (fun("x", "p", "x"), "a")), "q", "gap"),
            (("call", ("call", GAP, ("a",)), (fun("x", "p", "y"), "a")), "q", "term"), (("call", "f", (("call", GAP, ("a",)),)), "q", "gap"),
            (("call", "f", (GAP, "a")), "q", "term"), (fun("x", "p", GAP), "p -> q", "some"), (fun("x", "s", GAP), "s -> s", "filled"),
            (fun("x", "s", GAP), "s", "term"), (fun("x", "s", GAP), "p -> s", "term"), (fun("x", "s", GAP), "s -> p -> s", "filled"),
            (("fun", (("x", "s"), ("y", "t")), GAP), "s -> t -> s", "filled"), (("fun", (("x", "s"), ("y", "t")), GAP), "s -> t", "term"),
            (("call", fun("x", "p", GAP), ("a",)), "q", "gap"), (("call", fun("x", "p", ("call", "f", (GAP,))), ("a",)), "q", "some"),
            (("call", fun("x", "s", ("call", "f", (GAP,))), (GAP,)), "q", "none"), (("call", fun("a", "t", ("call", "f", (GAP,))), (GAP,)), "q", "none"),
            # What is called like a name hides it.
            (fun("a", "s", ("call", "f", (GAP,))), "s -> q", "none"), (fun("f", "s", GAP), "s -> s", "filled"),
            (fun("f", "s", GAP), "s -> q", "none"), (fun("a", "p", ("call", "f", (GAP,))), "p -> q", "filled"),
            (fun("a", "p -> p", GAP), "(p -> p) -> p", "none"), (fun("g", "s", fun("g", "t", GAP)), "s -> t -> s", "none"),
            (fun("x", "p -> p", GAP), "(p -> p) -> p", "endless"), (("call", "g", (fun("x", "p", GAP),)), "r", "some"),
            (("call", "g", (fun("x", "p", ("call", "f", ("x",))),)), "r", "no gap"), (("call", "g", (fun("x", "p", ("call", GAP, ("x",))),)), "r", "gap"),
            (("call", "g", (fun("x", "q", GAP),)), "r", "term"), (("call", ("call", "f", (GAP,)), (GAP,)), "q", "term"),
            (("call", fun("x", "p", fun("y", "s", GAP)), ("a",)), "s -> s", "gap"), ((GAP,), "q", "term"), (("gap", "a"), "q", "term"),
            (("call", "f", ()), "q", "term"), (["gap"], "q", "term"), ("gap", "q", "term"), (("fun", (), GAP), "q", "term"),
        ):
            with self.subTest(term=term, kind=kind):
                self.assertEqual(self.judged(book, term, kind), word)
        self.assert_raises(NotUsable, {"word": "gap", "at": (0, 0)}, filled_term, book, ("call", fun("x", "p", GAP), (GAP,)), "q")
        # The first one that is not wanted comes ahead of those that have not just one maker.
        term = ("call", "f", (("call", fun("x", "p", ("call", ("call", GAP, (GAP,)), ("x",))), (GAP,)),))
        self.assert_raises(NotUsable, {"word": "gap", "at": (1, 0, 0, 0, 0)}, filled_term, book, term, "q")
        term = ("fun", (("x", "p"), ("y", "q")), ("call", "g", (("fun", (("z", "p"),), GAP),)))
        self.assert_raises(NotOne, {"place": (0, 1, 0), "number": 4}, filled_term, book, term, "p -> q -> r")

    def test_terms_with_gaps(self):
        rng, met = random.Random(583), {}
        for book, wish, maker in MADE:
            for term in terms_for(rng, book, wish, maker, 3, 6):
                for many in (1, 1, 2, 4):
                    kind = wish if rng.random() < 0.9 else random_kind(rng, 3)
                    word = self.judged(book, with_gaps(rng, term, many), kind)
                    met[word] = met.get(word, 0) + 1
        self.assertGreater(min(met[word] for word in ("filled", "term", "gap", "none", "some", "endless")), 25, met)

    def test_gaps_at_each_place(self):
        """The place of a maker whose kind has but this one: the term is alike to what it was."""
        rng, many = random.Random(584), 0
        for book, wish, maker in MADE[::2]:
            term = terms_for(rng, book, wish, maker, 1, 4)[-1]
            for place, _, _ in all_inner(term):
                gapped = with_term_at(term, place, GAP)
                if self.judged(book, gapped, wish) == "filled":
                    self.assertEqual(plain_by_values(book, filled_term(book, gapped, wish)), maker)
                    many += 1
        self.assertGreater(many, 80)

    def test_changed_terms(self):
        rng, met = random.Random(585), {}
        for book, wish, maker in MADE:
            for term in terms_for(rng, book, wish, maker, 2, 5):
                changed = changed_term(rng, book, with_gaps(rng, term, rng.randint(0, 2)) if rng.random() < 0.6 else term)
                if is_form(changed):
                    changed = with_gaps(rng, changed, rng.randint(0, 2))
                word = self.judged(book, changed, wish)
                met[word] = met.get(word, 0) + 1
        self.assertGreater(min(met[word] for word in ("filled", "term", "gap", "no gap")), 10, met)

    def test_any_value(self):
        for thing in ANY_VALUES + [Book(), (Book(),)]:
            for term in (thing, ("call", "f", (thing, GAP)), ("call", GAP, (thing,)), ("fun", (("x", "p"),), thing), (thing,), ("fun", thing, GAP)):
                self.judged(PAIR, term, "q")

    def test_deep(self):
        book = (("f", "p -> p"), ("x", "p"))
        term = nested(1500, lambda inner: ("call", "f", (inner[0],)), GAP)
        self.assert_raises(NotOne, {"place": (1,) * 1500, "number": None}, filled_term, book, term, "p")
        term = nested(400, lambda inner: ("fun", (("x", "p"),), inner[0]), GAP)
        filled = filled_term((), term, " -> ".join(["p"] * 401))
        for _ in range(400):
            filled = filled[2]
        self.assertEqual(filled, "x")
        self.assertEqual(self.judged(LIST, GAP, CHURCH), "endless")

    def test_not_usable(self):
        good = {"book": PAIR, "term": ("call", "f", ("a", "b")), "kind": "q"}
        self.check_parameters(filled_term, good, {
            "book": NO_BOOKS + [Book(PAIR)], "term": [thing for thing in ANY_VALUES if not is_form(thing)] + [("call", GAP)], "kind": NO_KINDS})
        # What is no term by form comes ahead of a wrong kind, and this ahead of what is not right.
        self.assert_unusable("kind", -1, filled_term, PAIR, "c", "(p)")
        self.assert_unusable("kind", -1, filled_term, PAIR, ("call", GAP, ("a",)), "(p)")
        self.assert_unusable("term", -1, filled_term, PAIR, ("call", "c", ()), "(p)")


def gaps_last_first(gaps):
    return gaps[::-1]


if __name__ == "__main__":
    unittest.main()
