import unittest

from books import PEIRCE
from checks import Checks
from onlygiven.kindparts import atoms_of, end_of, kind_from, kinds_within, order_of, parts_of, size_of
from onlygiven.kinds import is_kind
from plainly import kind_of_tree, kinds_of_all_sorts, tree_atoms, tree_of, tree_order, trees_within
from values import ANY_VALUES, NO_KINDS, NO_NAMES, is_plainly_a_kind

KINDS = kinds_of_all_sorts(13, 400) + kinds_of_all_sorts(131, 30, 40)

OF_A_KIND = (parts_of, end_of, atoms_of, size_of, order_of, kinds_within)

DEEP = "(" * 60 + "p -> q" + ") -> p" * 60
LONG = "p -> " * 799 + "q"


class KindPartsTest(Checks):
    def test_examples(self):
        self.assert_is([parts_of(PEIRCE), order_of(PEIRCE), kinds_within("(p -> q) -> q")], [
            ("(p -> q) -> p",), 3, ("(p -> q) -> q", "p", "p -> q")])
        self.assert_is([parts_of("(p -> q) -> p"), end_of("(p -> q) -> p")], [("p -> q",), "p"])

    def test_an_atom(self):
        for atom in ("p", "abcdefgh"):
            self.assert_gives((), parts_of, kind=atom)
            self.assert_gives(atom, end_of, kind=atom)
            self.assert_gives((atom,), atoms_of, kind=atom)
            self.assert_gives(1, size_of, kind=atom)
            self.assert_gives(0, order_of, kind=atom)
            self.assert_gives((atom,), kinds_within, kind=atom)
            self.assert_gives(atom, kind_from, parts=(), end=atom)

    def test_written_out(self):
        kind = "(q -> p) -> r -> ((q -> p) -> q) -> q"
        self.assert_gives(("q -> p", "r", "(q -> p) -> q"), parts_of, kind=kind)
        self.assert_gives("q", end_of, kind=kind)
        self.assert_gives(("p", "q", "r"), atoms_of, kind=kind)
        self.assert_gives(7, size_of, kind=kind)
        self.assert_gives(3, order_of, kind=kind)
        self.assert_gives(tuple(sorted((kind, "q -> p", "q", "r", "(q -> p) -> q"))), kinds_within, kind=kind)
        self.assert_gives(kind, kind_from, parts=("q -> p", "r", "(q -> p) -> q"), end="q")

    def test_at_random(self):
        for kind in KINDS:
            tree = tree_of(kind)
            atoms = tree_atoms(tree)
            self.assert_gives(tuple(kind_of_tree(part) for part in tree[0]), parts_of, kind=kind)
            self.assert_gives(tree[1], end_of, kind=kind)
            self.assert_gives(tuple(sorted(set(atoms))), atoms_of, kind=kind)
            self.assert_gives(len(atoms), size_of, kind=kind)
            self.assert_gives(tree_order(tree), order_of, kind=kind)
            within = tuple(sorted(kind_of_tree(inner) for inner in trees_within(tree)))
            self.assert_gives(within, kinds_within, kind=kind)

    def test_consequences(self):
        for kind in KINDS:
            self.assert_is(kind_from(parts_of(kind), end_of(kind)), kind)
            self.assert_is(size_of(kind), 1 + sum(size_of(part) for part in parts_of(kind)))

    def test_kind_from_at_random(self):
        for k in range(len(KINDS) - 3):
            parts = tuple(KINDS[k:k + k % 4])
            made = kind_from(parts, "pq")
            self.assertTrue(is_kind(made))
            self.assert_is((parts_of(made), end_of(made)), (parts, "pq"))

    def test_beyond_the_limits(self):
        self.assert_is((size_of(LONG), order_of(LONG), atoms_of(LONG)), (800, 1, ("p", "q")))
        self.assert_is(parts_of(LONG), ("p",) * 799)
        self.assert_is((size_of(DEEP), order_of(DEEP), len(kinds_within(DEEP))), (62, 61, 62))
        self.assert_is((parts_of(DEEP), end_of(DEEP)), ((DEEP[1:-6],), "p"))

    def test_what_was_returned_is_taken_again(self):
        kind = "p"
        for _ in range(1500):
            kind = kind_from((kind,), "q")
        self.assert_is((size_of(kind), order_of(kind), atoms_of(kind)), (1501, 1500, ("p", "q")))
        self.assert_is(kind_from(parts_of(kind), end_of(kind)), kind)
        self.assert_is(len(kinds_within(kind)), 1501)

    def test_not_usable(self):
        for function in OF_A_KIND:
            self.check_parameters(function, {"kind": "p"}, {"kind": NO_KINDS})
        no_parts = [thing for thing in ANY_VALUES
                    if not isinstance(thing, tuple) or not all(is_plainly_a_kind(part) for part in thing)]
        no_parts += [["p"], ("p", "(p)"), ("(p -> q)",), ("p", None), ("p", ["q"]), ("p", ("q",)), (("p",),)]
        self.check_parameters(kind_from, {"parts": ("p",), "end": "q"}, {
            "parts": no_parts, "end": NO_NAMES + ["p -> q"]})


if __name__ == "__main__":
    unittest.main()
