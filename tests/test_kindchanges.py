import unittest

from checks import Checks
from onlygiven.kindchanges import instance_of, with_part, without_part
from onlygiven.kindparts import kind_from, parts_of
from plainly import kind_of_tree, kinds_of_all_sorts, tree_atoms, tree_instance, tree_of
from values import NO_KINDS, NO_NAMES, NO_NUMBERS, SIXTY_DIGITS

KINDS = kinds_of_all_sorts(14, 300)
OTHERS = kinds_of_all_sorts(141, 300, 5)
NAMES = ("p", "q", "pp", "abcdefgh", "r", "zz")


class InstanceTest(Checks):
    def test_example(self):
        self.assert_is(instance_of("(p -> q) -> p", "p", "a -> b"), "((a -> b) -> q) -> a -> b")

    def test_written_out(self):
        for kind, atom, other, expected in (
            ("p", "p", "q", "q"), ("p", "q", "r", "p"), ("p", "p", "q -> p", "q -> p"), ("q", "p", "a -> b", "q"),
            ("p -> p", "p", "p -> p", "(p -> p) -> p -> p"), ("q -> p", "p", "(a -> b) -> c", "q -> (a -> b) -> c"),
            ("(q -> p) -> r", "p", "a -> b", "(q -> a -> b) -> r"), ("pp -> p", "p", "q", "pp -> q"),
            ("(p -> q) -> p", "q", "a -> b", "(p -> a -> b) -> p"), ("((p -> p) -> p) -> p", "p", "q", "((q -> q) -> q) -> q"),
            ("pq -> p -> qp", "p", "q -> q", "pq -> (q -> q) -> qp"),
        ):
            self.assert_gives(expected, instance_of, kind=kind, atom=atom, other=other)

    def test_at_random(self):
        for k, (kind, other) in enumerate(zip(KINDS, OTHERS)):
            for atom in (NAMES[k % len(NAMES)], *tree_atoms(tree_of(kind))[:2]):
                expected = kind_of_tree(tree_instance(tree_of(kind), atom, tree_of(other)))
                self.assert_gives(expected, instance_of, kind=kind, atom=atom, other=other)

    def test_two_instances(self):
        """Replacing a by x and then b by y is replacing b by y and then a by x, with b by y in it."""
        for k, (kind, x) in enumerate(zip(KINDS, OTHERS)):
            for y in OTHERS[k:k + 3]:
                a, b = ("p", "q") if k % 2 else ("pp", "p")
                if a not in tree_atoms(tree_of(y)):
                    first = instance_of(instance_of(kind, a, x), b, y)
                    self.assert_is(instance_of(instance_of(kind, b, y), a, instance_of(x, b, y)), first)

    def test_what_was_returned_is_taken_again(self):
        kind = "p"
        for _ in range(12):
            kind = instance_of(kind, "p", "p -> p")
        self.assert_is(kind.count("p"), 4096)

    def test_not_usable(self):
        self.check_parameters(instance_of, {"kind": "p", "atom": "p", "other": "q"}, {
            "kind": NO_KINDS, "atom": NO_NAMES + ["p -> q"], "other": NO_KINDS})


class PartTest(Checks):
    def test_example(self):
        self.assert_is(with_part("p -> q", "r -> r", at=1), "p -> (r -> r) -> q")

    def test_at_the_beginning_if_nothing_is_said(self):
        self.assert_gives("(r -> r) -> p -> q", with_part, kind="p -> q", part="r -> r")
        self.assert_gives("r -> q", with_part, kind="q", part="r")

    def test_every_place(self):
        for k, kind in enumerate(KINDS):
            part, parts = OTHERS[k], parts_of(kind)
            end = tree_of(kind)[1]
            for at in range(len(parts) + 1):
                expected = kind_from((*parts[:at], part, *parts[at:]), end)
                self.assert_gives(expected, with_part, kind=kind, part=part, at=at)
                self.assert_gives(kind, without_part, kind=expected, k=at)
            for at in range(len(parts)):
                expected = kind_from(parts[:at] + parts[at + 1:], end)
                self.assert_gives(expected, without_part, kind=kind, k=at)

    def test_places_that_are_none(self):
        for k, kind in enumerate(KINDS):
            many = len(parts_of(kind))
            self.refused("at", with_part, {"kind": kind, "part": OTHERS[k], "at": many + 1})
            self.refused("k", without_part, {"kind": kind, "k": many})

    def test_not_usable(self):
        self.check_parameters(with_part, {"kind": "p -> q", "part": "p", "at": 1}, {
            "kind": NO_KINDS, "part": NO_KINDS, "at": NO_NUMBERS + [2, 3, SIXTY_DIGITS]})
        self.check_parameters(without_part, {"kind": "p -> q", "k": 0}, {
            "kind": NO_KINDS, "k": NO_NUMBERS + [1, 2, SIXTY_DIGITS]})

    def test_the_place_is_told_by_name_only(self):
        with self.assertRaises(TypeError):
            with_part("p -> q", "p", 1)


if __name__ == "__main__":
    unittest.main()
