import random
import unittest

from books import PAIR, PEIRCE
from checks import Checks
from onlygiven.bookclasses import Book
from onlygiven.kindclasses import Kind
from onlygiven.kindparts import kinds_within, parts_of
from plainly import kind_of_tree, kinds_of_all_sorts, tree_of, trees_within
from values import ANY_VALUES, NO_KINDS, NO_NAMES, NO_NUMBERS

KINDS = kinds_of_all_sorts(18, 200)

OBJECTS = [Book(PAIR), Book(), (Kind("p"),), [Kind("p")], ("p", Kind("q"))]


class KindTest(Checks):
    def made(self, kind, spelling):
        """A Kind of exactly this class, with all that it tells of itself."""
        self.assertIs(type(kind), Kind)
        parts, end = tree_of(spelling)
        rows = [kind_of_tree(part) for part in parts]
        self.assert_is(
            [kind.spelling, kind.parts, kind.end, len(kind), list(kind), str(kind), [row for row in kind]],
            [spelling, tuple(rows), end, len(rows), rows, spelling, rows])

    def test_example(self):
        p = Kind.atom("p")
        q = Kind("q")
        self.assert_is(
            [str(p >> (q >> p)), str((p >> q) >> p), str((p >> q)(p)), "p" in p >> q, "q" in p >> q, len(p)],
            ["p -> q -> p", "(p -> q) -> p", "q", True, False, 0])

    def test_example_says_q_is_not_within(self):
        """The end of a kind is no kind within."""
        self.assertIs(Kind("q") in Kind("p -> q"), False)
        self.assertIs(Kind("p -> q") in Kind("p -> q"), True)

    def test_at_random(self):
        for spelling in KINDS:
            for kind in (Kind(spelling), Kind(spelling=spelling)):
                self.made(kind, spelling)
                for k, part in enumerate(parts_of(spelling)):
                    self.made(kind[k], part)
                for k in (len(kind), len(kind) + 1, -1, -len(kind) - 1):
                    self.assert_unusable("k", -1, lambda: kind[k])

    def test_index_of_no_part(self):
        kind = Kind("p -> q -> (r -> p) -> s")
        for thing in NO_NUMBERS + OBJECTS + [Kind("p"), slice(0, 1), 3, 10 ** 60, "p"]:
            self.assert_unusable("k", -1, lambda: kind[thing])

    def test_not_usable(self):
        for thing in NO_KINDS + OBJECTS + [Kind("p")]:
            self.assert_unusable("spelling", -1, Kind, thing)
            self.assert_unusable("spelling", -1, Kind, spelling=thing)

    def test_within(self):
        for spelling in KINDS:
            kind, within = Kind(spelling), {kind_of_tree(tree) for tree in trees_within(tree_of(spelling))}
            self.assertEqual(within, set(kinds_within(spelling)))
            for other in KINDS + sorted(within) + ["p", "q", "zz"]:
                self.assertIs(other in kind, other in within)
                self.assertIs(Kind(other) in kind, other in within)

    def test_any_value_within(self):
        for thing in ANY_VALUES + OBJECTS + NO_KINDS:
            inside = isinstance(thing, str) and thing in ("p", "p -> q", "(p -> q) -> p", PEIRCE)
            self.assertIs(thing in Kind(PEIRCE), inside)

    def test_equal(self):
        for spelling in KINDS[:30]:
            for other in KINDS[:30]:
                self.assertIs(Kind(spelling) == Kind(other), spelling == other)
                self.assertIs(Kind(spelling) != Kind(other), spelling != other)
        for thing in ANY_VALUES + OBJECTS + [PEIRCE, "p", NotImplemented]:
            self.assertIs(Kind("p") == thing, False)
            self.assertIs(thing == Kind("p"), False)

    def test_put_together_and_taken_off(self):
        rng = random.Random(181)
        for spelling in KINDS:
            first, second = Kind(spelling), Kind(rng.choice(KINDS))
            both = first >> second
            left = f"({first})" if len(first) else str(first)
            self.made(both, f"{left} -> {second}")
            self.made(both(first), second.spelling)
            self.made(both(other=first), second.spelling)
            self.assertTrue(both(first) == second)
            self.assertTrue(both[0] == first)
            self.assertTrue(first in both)
            self.assertIs(second in both, second.spelling in kinds_within(both.spelling))

    def test_three_put_together(self):
        rng = random.Random(182)
        for _ in range(200):
            a, b, c = [Kind(rng.choice(KINDS)) for _ in range(3)]
            self.assertEqual((a >> (b >> c)).parts, (a.spelling, b.spelling, *c.parts))
            self.assertTrue((a >> (b >> c))(a)(b) == c)
            self.assertTrue(((a >> b) >> c)(a >> b) == c)

    def test_what_cannot_be_put_together_or_taken_off(self):
        kind = Kind("p -> (q -> r) -> p")
        for thing in ANY_VALUES + OBJECTS + ["p"]:
            self.assert_unusable("other", -1, lambda: kind >> thing)
            self.assert_unusable("other", -1, kind, thing)
            self.assert_unusable("other", -1, kind, other=thing)
            self.assert_unusable("other", -1, Kind("p"), thing)
        for other in ("q", "p -> p", "q -> r", "(q -> r) -> p", "r"):
            self.assert_unusable("other", -1, kind, Kind(other))
        for other in ("p", "q"):
            self.assert_unusable("other", -1, Kind("p"), Kind(other))

    def test_atom(self):
        for name in ("p", "abcdefgh", "z"):
            self.made(Kind.atom(name), name)
            self.made(Kind.atom(name=name), name)
        for thing in NO_NAMES + OBJECTS + [Kind("p"), "p -> q"]:
            self.assert_unusable("name", -1, Kind.atom, thing)
            self.assert_unusable("name", -1, Kind.atom, name=thing)

    def test_spelled(self):
        for spelling in KINDS:
            for thing in (spelling, Kind(spelling)):
                self.assert_is(Kind.spelled(thing), spelling)
                self.assert_is(Kind.spelled(thing=thing), spelling)
        for thing in NO_KINDS + OBJECTS:
            self.assert_unusable("thing", -1, Kind.spelled, thing)
            self.assert_unusable("thing", -1, Kind.spelled, thing=thing)

    def test_never_changes(self):
        kind = Kind(PEIRCE)
        for name in ("spelling", "parts", "end"):
            with self.assertRaises(AttributeError):
                setattr(kind, name, "p")
        with self.assertRaises(TypeError):
            kind[0] = "p"
        same = kind
        kind >>= Kind("q")
        self.made(same, PEIRCE)
        self.made(kind, f"({PEIRCE}) -> q")


if __name__ == "__main__":
    unittest.main()
