import itertools
import random
import unittest

from books import PAIR
from checks import Checks
from makerly import CHURCH, numeral
from onlygiven.bookclasses import Book
from onlygiven.meanings import Meaning
from onlygiven.plainforms import plain_of
from onlygiven.termforms import term_of
from plainly import makers_of_size, tree_of, trees_in, wishes_of_all_sorts
from termly import drawn_terms, terms_for, tree_of_term
from test_termchecker import NO_TERMS
from values import ANY_VALUES, NO_BOOKS, NO_KINDS, NO_MAKERS, nested

TERM = ("call", ("fun", (("x", "p"),), ("call", "f", ("x",))), ("b",))

VALUES = (("f", max), ("a", 3), ("b", 5))

WISHES = wishes_of_all_sorts(29, 90, names=5) + wishes_of_all_sorts(291, 50, names=4, order=3)

MADE = [(book, wish, maker) for book, wish in WISHES
        for size in range(1, 6) for maker in makers_of_size(book, wish, size)[:2]]


class World:
    """A small set for each atom, and functions by what they do with some arguments."""

    def __init__(self, rng):
        self.sets = {atom: range(rng.randint(1, 3)) for atom in "pqrs"}
        self.rng = rng

    def probes(self, tree):
        """Some values of a kind: of an atom all there are, of another kind functions that only look at what is plain."""
        parts, end = tree
        if not parts:
            return list(self.sets[end])
        plain = [k for k, part in enumerate(parts) if not part[0]]
        size = len(self.sets[end])
        return [lambda *given, add=add: (add + sum(given[k] for k in plain)) % size for add in range(min(size, 2))]

    def print_of(self, tree, value):
        """What a value of the kind does with the probes: the same for values that do the same."""
        parts, end = tree
        if not parts:
            assert value in self.sets[end] and type(value) is int
            return value
        rows = itertools.product(*map(self.probes, parts))
        return tuple(value(*row) for row in itertools.islice(rows, 30))

    def value(self, tree):
        """A value at random; what a function tells hangs on the prints of its arguments alone."""
        parts, end = tree
        if not parts:
            return self.rng.choice(self.sets[end])
        seed, size = self.rng.randrange(10 ** 6), len(self.sets[end])

        def function(*given):
            assert len(given) == len(parts)
            told = tuple(self.print_of(part, value) for part, value in zip(parts, given))
            return random.Random(f"{seed} {told}").randrange(size)

        return function


def value_by_words(trees, values, term):
    """The value of a term where names have these kinds and values."""
    if isinstance(term, str):
        return values[term]
    if term[0] == "call":
        parts, _ = tree_of_term(trees, term[1])
        function, *given = [value_by_words(trees, values, inner) for inner in (term[1], *term[2])]
        if len(given) == len(parts):
            return function(*given)
        return lambda *more: function(*given, *more)
    inside = {**trees, **{name: tree_of(kind) for name, kind in term[1]}}
    parts, _ = tree_of_term(inside, term[2])

    def function(*given):
        own = {**values, **dict(zip(dict(term[1]), given))}
        value = value_by_words(inside, own, term[2])
        return value(*given[len(term[1]):]) if parts else value

    return function


class MeaningTest(Checks):
    def test_example(self):
        greatest = Meaning(PAIR, VALUES)
        self.assert_is(
            [greatest(("call", "f", ("a", "b"))), greatest(TERM)(9), greatest.of_maker("p -> q", ("f", ((0, ()), ("a", ()))))(2)],
            [5, 9, 3])
        greatest = Meaning(book=PAIR, values=VALUES)
        self.assert_is([greatest(term="a"), greatest(term=TERM)(1), greatest.of_maker(wish="p", maker=("b", ()))], [3, 5, 5])
        self.assertIs(greatest("f")(1, 2), 2)

    def test_drawn_meanings(self):
        """The values of a term, of its plain form, and of what is written of this, against the words of the document."""
        rng, great = random.Random(292), 0
        for book, wish, maker in MADE[::2]:
            world, tree = World(rng), tree_of(wish)
            trees = dict(trees_in(book))
            values = {name: world.value(kind) for name, kind in trees.items()}
            meaning = Meaning(book, tuple(rng.sample(list(values.items()), len(values))))
            expected = world.print_of(tree, meaning.of_maker(wish, maker))
            for term in terms_for(rng, book, wish, maker, 2, 6) + [term_of(book, wish, maker)]:
                self.assertEqual(world.print_of(tree, value_by_words(trees, values, term)), expected)
                self.assertEqual(world.print_of(tree, meaning(term)), expected)
                self.assertEqual(world.print_of(tree, meaning(term_of(book, wish, plain_of(book, term)))), expected)
            great += any(part[0] for part in tree[0])
        self.assertGreater(great, 20)

    def test_drawn_terms(self):
        rng = random.Random(294)
        for book, kind, term in drawn_terms(295, 120, (3, 6)):
            world, trees = World(rng), dict(trees_in(book))
            values = {name: world.value(tree) for name, tree in trees.items()}
            meaning = Meaning(book, tuple(values.items()))
            expected = world.print_of(tree_of(kind), value_by_words(trees, values, term))
            self.assertEqual(world.print_of(tree_of(kind), meaning(term)), expected)
            self.assertEqual(world.print_of(tree_of(kind), meaning.of_maker(kind, plain_of(book, term))), expected)

    def test_written_out(self):
        book = (("apply", "(p -> p) -> p -> p"), ("n", "p"), ("next", "p -> p"), ("take", "((p -> p) -> p) -> p"))
        meaning = Meaning(book, (
            ("n", 5), ("next", lambda number: number + 1), ("apply", lambda function, number: function(function(number))),
            ("take", lambda function: function(lambda number: number * 10))))
        fun = lambda name, kind, term: ("fun", ((name, kind),), term)
        for term, value in (
            ("n", 5), (("call", "next", ("n",)), 6), (("call", "apply", ("next", "n")), 7),
            (("call", "apply", (("call", "apply", ("next",)), "n")), 9), (("call", "take", (fun("g", "p -> p", ("call", "g", ("n",))),)), 50),
            (("call", "take", (fun("g", "p -> p", "n"),)), 5),
            (("call", "take", (fun("g", "p -> p", ("call", "apply", ("g", "n"))),)), 500),
            (("call", fun("n", "p -> p", fun("x", "p", ("call", "n", (("call", "n", ("x",)),)))), ("next", "n")), 7),
        ):
            self.assert_is(meaning(term), value)
        self.assertEqual([meaning("next")(1), meaning("apply")(lambda number: number - 1, 9), meaning("take")(lambda function: function(7))], [2, 7, 70])
        for number in range(5):
            self.assertEqual(meaning.of_maker(CHURCH, numeral(number))(lambda text: text + "s", "z"), "z" + "s" * number)
        # A call with fewer terms than there are parts, and a fun around a function.
        self.assertEqual(meaning(("call", "apply", ("next",)))(1), 3)
        self.assertEqual(meaning(fun("x", "p", "apply"))(0, lambda number: number + 5, 1), 11)
        self.assertEqual(meaning(("fun", (("x", "q"), ("y", "p")), "y"))("any", "thing"), "thing")

    def test_values_of_any_kind(self):
        """The very object comes back, and functions get it."""
        for thing in ANY_VALUES + [Book(), object(), [], {}, 0.5, len]:
            meaning = Meaning((("a", "p"), ("f", "p -> q")), (("f", lambda given: (given,)), ("a", thing)))
            self.assertIs(meaning("a"), thing)
            self.assertIs(meaning(("call", "f", ("a",)))[0], thing)
            self.assertIs(meaning.of_maker("q", ("f", (("a", ()),)))[0], thing)
            self.assertIs(meaning(("fun", (("x", "p"),), "x"))(thing), thing)

    def test_functions_are_functions(self):
        for book, wish, maker in MADE[::5]:
            world = World(random.Random(293))
            values = tuple((name, world.value(tree)) for name, tree in trees_in(book))
            value = Meaning(book, values).of_maker(wish, maker)
            self.assertIs(type(value) is int, not tree_of(wish)[0])
            self.assertIs(callable(value), bool(tree_of(wish)[0]))

    def test_long(self):
        """Many calls in a call, and funs that are called at once."""
        meaning = Meaning((("f", "p -> p"), ("x", "p")), (("f", lambda number: number + 1), ("x", 0)))
        self.assertEqual(meaning(nested(1500, lambda inner: ("call", "f", (inner[0],)), "x")), 1500)
        term = nested(400, lambda inner: ("call", ("fun", (("x", "p"),), inner[0]), (("call", "f", ("x",)),)), "x")
        self.assertEqual(meaning(term), 400)

    def test_not_usable(self):
        values = [thing for thing in ANY_VALUES if thing != ()] + [
            list(VALUES), dict(VALUES), VALUES[:2], VALUES + VALUES[:1], VALUES[:2] + VALUES[:1], (*VALUES, ("c", 1)), (*VALUES[:2], ("c", 5)),
            (*VALUES[:2], ["b", 5]), (*VALUES[:2], ("b",)), (*VALUES[:2], ("b", 5, 5)), (*VALUES[:2], ((("b",), 5))), (*VALUES[:2], (["b"], 5)),
            (*VALUES[:2], "b5"), (*VALUES[:2], None), (), (*VALUES[:2], (None, 5)),
        ]
        self.check_parameters(Meaning, {"book": PAIR, "values": VALUES}, {"book": NO_BOOKS + [Book(PAIR)], "values": values})
        self.assertEqual(Meaning((), ()).of_maker("p -> p", (0, ()))(3), 3)
        meaning = Meaning(PAIR, VALUES)
        for thing in NO_TERMS:
            self.assert_unusable("term", -1, meaning, thing)
        self.check_parameters(meaning.of_maker, {"wish": "q", "maker": ("f", (("a", ()), ("b", ())))}, {
            "wish": NO_KINDS, "maker": NO_MAKERS + [("a", ()), ("f", (("a", ()),)), ("f", (("a", ()), (0, ())))]})


if __name__ == "__main__":
    unittest.main()
