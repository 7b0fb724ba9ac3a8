import random
import unittest

from books import PAIR, PEIRCE, ROUND
from checks import Checks
from onlygiven.bookclasses import Book
from onlygiven.errors import InvalidPaper
from onlygiven.judging import can_make
from onlygiven.worldchecker import lets_world
from onlygiven.worlds import world_of
from test_worlds import NO_WORLDS, WISHES, WORLD
from values import ANY_VALUES, NO_BOOKS, NO_KINDS
from worldly import changed_world, random_world, world_fault


class WorldCheckerTest(Checks):
    def judged(self, book, wish, thing):
        fault = world_fault(book, wish, thing)
        if fault is None:
            self.assert_gives(len(thing), lets_world, book=book, wish=wish, thing=thing)
            # What a checker accepts is true, whoever wrote it.
            self.assertFalse(can_make(book, wish))
            return None
        fields = {"word": fault[0], "at": fault[1]}
        self.assert_raises(InvalidPaper, fields, lets_world, book, wish, thing)
        self.assert_raises(InvalidPaper, fields, lets_world, book=book, wish=wish, thing=thing)
        return fault[0]

    def test_examples(self):
        self.assert_gives(2, lets_world, book=(), wish=PEIRCE, thing=WORLD)
        self.assert_raises(InvalidPaper, {"word": "wish", "at": -1}, lets_world, (), "p -> p", WORLD)

    def test_written_out(self):
        book = (("a", "p"), ("f", "p -> q"), ("g", "r -> q"))
        for world, word, at in (
            (None, "shape", -1), ([WORLD[0]], "shape", -1), ((), "shape", -1), ((None,), "row", 0), ((WORLD[0], 3), "row", 1),
            (((), (0,)), "row", 0), ((((), (0,), ()),), "row", 0), (([(), (0,)],), "row", 0), ((((), ()),), "row", 0), ((((), (0, 1)),), "row", 0),
            ((((), (0,)), ((), (0,))), "row", 1), ((((), (0, 0)),), "row", 0), (((("q", "p"), (0,)),), "row", 0), (((("p", "p"), (0,)),), "row", 0),
            (((("P",), (0,)),), "row", 0), ((((), (False,)),), "row", 0), ((((), (0, "1")), ((), (1,))), "row", 0), ((((), (1, 0)), ((), (1,))), "row", 0),
            ((((), (0, 1)), (("p",), (1, 2)), (("p",), (2,))), "above", 0), (((("p",), (0, 1)), ((), (1,))), "atoms", 0),
            # All of one row comes ahead of the next one.
            ((((), (0,)), (("p",), (1, 2)), ((), (2, 3)), ((), (3,))), "above", 1), (((("p",), (0, 1)), ((), (1, 2)), ((), (2, 3)), ((), (3,))), "above", 0),
            (((("p",), (0, 1, 2)), ((), (1, 2)), ((), (2,))), "atoms", 0), ((((), (0,)), (("p",), (1, 2)), ((), (2,)), ((), (0, 3))), "atoms", 1),
            ((((), (0,)),), "name", 0), (((("p",), (0,)),), "name", 1), (((("p", "r"), (0,)),), "name", 1), (((("p", "q"), (0,)),), "wish", -1),
            (((("p", "q"), (0, 1)), (("p", "q", "r"), (1,))), "wish", -1),
        ):
            with self.subTest(world=world):
                self.assertEqual(world_fault(book, "q", world), (word, at))
                self.judged(book, "q", world)
        for wish, world, word in (
            ("r", ((("p", "q"), (0,)),), None), ("r", ((("p", "q"), (0, 1)), (("p", "q", "r"), (1,))), None), ("q -> r", ((("p", "q"), (0,)),), None),
            ("r", ((("p", "q"), (0,)), ((), (1,))), None), ("r", ((("p", "q"), (0, 1)), (("p", "q"), (0, 1))), None),
            ("r", ((("p", "q", "r"), (0,)), (("p", "q"), (1,))), "wish"), ("zz", ((("p", "q", "r"), (0,)),), None), ("zz -> p", ((("p", "q", "zzz"), (0,)),), "wish"),
            ("(s -> p) -> r", ((("p", "q"), (0, 1)), (("p", "q", "r", "s"), (1,))), None),
        ):
            with self.subTest(world=world, wish=wish):
                self.assertEqual(self.judged(book, wish, world), word)

    def test_any_value(self):
        for thing in ANY_VALUES + NO_WORLDS + [Book(), (Book(),), ((Book(), (0,)),)]:
            for world in (thing, (thing,), (WORLD[0], thing), (((), thing),), ((thing, (0,)),), (((), (thing,)),), (((thing,), (0,)),), (((), (0, thing)),)):
                self.judged((), PEIRCE, world)
                self.judged(ROUND, "p", world)

    def test_worlds(self):
        """Those of the package, with one change and with two, drawn ones, and those of other wishes."""
        rng, met, accepted = random.Random(38), {}, 0
        for book, wish in WISHES:
            world = world_of(book, wish)
            if world is None:
                self.judged(book, wish, random_world(rng, 4))
                continue
            self.assertIsNone(self.judged(book, wish, world))
            for _ in range(10):
                changed = changed_world(rng, rng.choice((world, world, random_world(rng, 5))), ("p", "q", "r"))
                if rng.random() < 0.4 and world_fault(book, wish, changed) is None:
                    changed = changed_world(rng, changed, ("p", "q", "r"))
                word = self.judged(book, wish, changed)
                met[word] = met.get(word, 0) + 1
                accepted += word is None and changed != world
            other, kind = rng.choice(WISHES)
            self.judged(other, wish, world)
            self.judged(book, kind, world)
        self.assertEqual(set(met), {None, "shape", "row", "above", "atoms", "name", "wish"})
        self.assertGreater(min(met.values()), 30, met)
        self.assertGreater(accepted, 200)

    def test_not_usable(self):
        self.check_parameters(lets_world, {"book": PAIR, "wish": "r", "thing": None}, {"book": NO_BOOKS + [Book(PAIR)], "wish": NO_KINDS})


if __name__ == "__main__":
    unittest.main()
