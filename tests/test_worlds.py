import random
import unittest

from books import LIST, PAIR, PEIRCE, ROUND
from checks import Checks
from onlygiven.bookclasses import Book
from onlygiven.judging import can_make
from onlygiven.worldchecker import lets_world
from onlygiven.worlds import holds_at, world_of
from plainly import has_maker, kinds_of_all_sorts, random_kind, tree_of, wishes_of_all_sorts
from values import ANY_VALUES, NO_BOOKS, NO_KINDS, NO_NUMBERS
from worldly import changed_world, frame_fault, holds_plainly, random_world, world_fault

WISHES = (
    wishes_of_all_sorts(37, 400, names=5) + wishes_of_all_sorts(371, 200, names=5, order=3)
    + wishes_of_all_sorts(372, 150, names=3, atoms=("p", "q"), size=6, order=3) + wishes_of_all_sorts(373, 100, names=6, size=3)
)

WORLD = (((), (0, 1)), (("p",), (1,)))

NO_WORLDS = [thing for thing in ANY_VALUES if frame_fault(thing) is not None] + [
    (((), (1,)), ((), (1,))), (((), ()),), (((), (0, 1)),), (((), (0, 1)), ((), (1, 2)), ((), (2,))), ((("p",), (0, 1)), ((), (1,))),
    (((), [0]),), ([(), (0,)],), ((["p"], (0,)),), [((), (0,))], (((), (False,)),), ((("q", "p"), (0,)),), ((("p", "p"), (0,)),), (((), (0, 0)),),
    ((("P",), (0,)),), ((("p -> q",), (0,)),), (((), (0,), ()),), (((), (0, -1)),), (((), (1, 0)), ((), (0, 1))), (((), (0,)), None),
]


class WorldsTest(Checks):
    def test_example(self):
        self.assert_is([holds_at(WORLD, 0, "p -> q"), holds_at(WORLD, 0, "(p -> q) -> p")], [False, True])
        self.assert_is(world_of((), PEIRCE), WORLD)

    def test_worlds_of_wishes(self):
        """There is one just for the wishes without makers, and what it bars has none."""
        many, greatest = 0, 0
        for book, wish in WISHES:
            world = world_of(book, wish)
            self.assert_gives(world, world_of, book=book, wish=wish)
            self.assertIs(world is None, has_maker(book, wish))
            if world is not None:
                self.assertIsNone(world_fault(book, wish, world))
                self.assertEqual(lets_world(book, wish, world), len(world))
                many, greatest = many + 1, max(greatest, len(world))
        self.assertGreater(many, 200)
        self.assertGreater(greatest, 3)
        self.assertLess(greatest, 65)

    def test_written_out(self):
        self.assert_is([world_of(PAIR, "q"), world_of((), "p -> p"), world_of(LIST, "s")], [None, None, None])
        self.assert_is(world_of((), "p"), (((), (0,)),))
        for book, wish in ((ROUND, "p"), (LIST, "p"), (PAIR, "r"), ((), "p -> q"), ((), "((p -> q) -> q) -> p"), ((("f", PEIRCE),), "q")):
            self.assertIsNone(world_fault(book, wish, world_of(book, wish)))

    def test_limits(self):
        """Six rows of parts that parts of parts open: each set of them is a row of the world."""
        book = tuple((name, f"(({atom} -> q) -> r) -> q") for name, atom in zip("abcdef", ("s", "t", "u", "v", "w", "x")))
        world = world_of(book, "q")
        self.assertLessEqual(len(world), 64)
        self.assertEqual(lets_world(book, "q", world), len(world))
        book = tuple((name, f"({atom} -> r) -> r") for name, atom in zip("abcdef", ("s", "t", "u", "v", "w", "x")))
        world = world_of(book, "r")
        self.assertEqual(len(world), 64)
        self.assertEqual(lets_world(book, "r", world), 64)

    def test_holds_at(self):
        rng, met = random.Random(374), {}
        kinds = kinds_of_all_sorts(375, 100, 6)
        for _ in range(250):
            world = random_world(rng, 6)
            for kind in (rng.choice(kinds), random_kind(rng, 4, ("p", "q", "r")), rng.choice("pqr"), "zz", "zz -> p"):
                told = [holds_plainly(world, row, tree_of(kind)) for row in range(len(world))]
                for row in range(len(world)):
                    self.assert_gives(told[row], holds_at, world=world, row=row, kind=kind)
                    met[told[row]] = met.get(told[row], 0) + 1
                    # What holds at a row holds at all rows above it.
                    self.assertTrue(not told[row] or all(told[above] for above in world[row][1]))
        self.assertGreater(min(met.values()), 500)

    def test_what_can_be_made_holds(self):
        """At each row at which all names hold."""
        rng, many = random.Random(376), 0
        for book, wish in WISHES:
            if can_make(book, wish):
                for _ in range(8):
                    world = random_world(rng, 5)
                    for row in range(len(world)):
                        if all(holds_at(world, row, kind) for _, kind in book):
                            self.assertTrue(holds_at(world, row, wish))
                            many += 1
        self.assertGreater(many, 500)

    def test_no_worlds(self):
        rng, met = random.Random(377), {}
        for _ in range(1500):
            world = random_world(rng, 5)
            changed = changed_world(rng, world, ("p", "q", "r"))
            fault = frame_fault(changed)
            met[fault and fault[0]] = met.get(fault and fault[0], 0) + 1
            if fault is None:
                self.assert_is(holds_at(changed, 0, "p -> q"), holds_plainly(changed, 0, tree_of("p -> q")))
            else:
                self.refused("world", holds_at, {"world": changed, "row": 0, "kind": "p"})
        self.assertEqual(set(met), {None, "shape", "row", "above", "atoms"})
        self.assertGreater(min(met.values()), 30, met)

    def test_deep_kinds(self):
        kind = "p"
        for _ in range(60):
            kind = f"({kind}) -> q" if " " in kind else f"{kind} -> q"
        # p -> q holds nowhere, so the next one everywhere, and so on.
        self.assert_is([holds_at(WORLD, 0, kind), holds_at(WORLD, 1, kind), holds_at(WORLD, 1, f"({kind}) -> q")], [True, True, False])

    def test_not_usable(self):
        self.check_parameters(world_of, {"book": PAIR, "wish": "q"}, {"book": NO_BOOKS + [Book(PAIR)], "wish": NO_KINDS})
        self.check_parameters(holds_at, {"world": WORLD, "row": 1, "kind": "q"}, {
            "world": NO_WORLDS, "row": NO_NUMBERS + [2, 3, 10 ** 59], "kind": NO_KINDS})


if __name__ == "__main__":
    unittest.main()
