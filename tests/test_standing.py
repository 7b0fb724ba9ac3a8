import random
import unittest

from books import PAIR, PEIRCE, ROUND
from checks import Checks
from onlygiven.bookclasses import Book
from onlygiven.judging import can_make
from onlygiven.shuttables import shut_table
from onlygiven.standing import first_stand, heads_at, makeable_stands, stand_behind, stands_from
from papers import check_shut_table, is_plainly_a_stand, stand_of
from plainly import can_be_made, heads_of_stand, kind_of_tree, kinds_of_all_sorts, random_kind, tree_of, trees_in, wishes_of_all_sorts
from plainly import stand_behind as plainly_behind
from values import ANY_VALUES, NO_BOOKS, NO_KINDS

WISHES = (
    wishes_of_all_sorts(34, 250, names=5) + wishes_of_all_sorts(341, 80, names=5, order=3)
    + wishes_of_all_sorts(342, 60, names=3, atoms=("p", "q"), size=6, order=3)
)

NO_STANDS = [thing for thing in ANY_VALUES if not is_plainly_a_stand(thing)] + [
    (("q", "p"), "p"), (("p", "p"), "p"), (("(p)",), "p"), ((), "p -> q"), ((), "P"), (["p"], "q"), [("p",), "q"], ("p", "q"),
    ((), "p", "q"), ((),), (((),), "p"), ((("p",),), "p"), ((), ("p",)), ((None,), "p"),
]


def written(stand):
    """The stand of a set of trees and an atom."""
    return tuple(sorted(kind_of_tree(tree) for tree in stand[0])), stand[1]


def plain_stands(book, wish):
    """All stands to which the wish leads, with trees."""
    first = (frozenset(tree_of(wish)[0]), tree_of(wish)[1])
    found, waiting = {first}, [first]
    while waiting:
        stand = waiting.pop()
        for head in heads_of_stand(trees_in(book), stand):
            for part in head[0]:
                behind = plainly_behind(stand, part)
                if behind not in found:
                    found.add(behind)
                    waiting.append(behind)
    return found


class StandingTest(Checks):
    def test_examples(self):
        self.assert_is([first_stand(PEIRCE), heads_at(PAIR, (("p", "r -> q"), "q"))],
                       [(("(p -> q) -> p",), "p"), ("p -> p -> q", "r -> q")])
        self.assert_is(stand_behind(first_stand(PEIRCE), "p -> q"), (("(p -> q) -> p", "p"), "q"))
        self.assert_is([stands_from(ROUND, "p"), makeable_stands(ROUND, "p"), makeable_stands(PAIR, "q")],
                       [(((), "p"), ((), "q")), (), (((), "p"), ((), "q"))])

    def test_first_stands(self):
        for kind in kinds_of_all_sorts(343, 200):
            self.assert_gives(written((frozenset(tree_of(kind)[0]), tree_of(kind)[1])), first_stand, wish=kind)
        self.assert_gives((("p", "q -> p"), "r"), first_stand, wish="(q -> p) -> p -> p -> (q -> p) -> r")

    def test_stands(self):
        dead = 0
        for book, wish in WISHES:
            stands = plain_stands(book, wish)
            made = [stand for stand in stands if can_be_made(trees_in(book), stand[0], ((), stand[1]))]
            self.assert_gives(tuple(sorted(map(written, stands))), stands_from, book=book, wish=wish)
            self.assert_gives(tuple(sorted(map(written, made))), makeable_stands, book=book, wish=wish)
            dead += 0 < len(made) < len(stands)
        self.assertGreater(dead, 40)

    def test_heads_and_what_is_behind(self):
        rng = random.Random(344)
        for book, wish in WISHES:
            stands = stands_from(book, wish)
            kinds = tuple(sorted({random_kind(rng, 4, ("p", "q", "r"), 2) for _ in range(rng.randint(0, 3))}))
            for stand in (*stands, (kinds, rng.choice("pqr")), (kinds, "zz")):
                heads = heads_of_stand(trees_in(book), stand_of(stand))
                self.assert_gives(tuple(sorted(map(kind_of_tree, heads))), heads_at, book=book, stand=stand)
                for part in (*kinds, wish, "p", "p -> q -> zz"):
                    behind = plainly_behind(stand_of(stand), tree_of(part))
                    self.assert_gives(written(behind), stand_behind, stand=stand, part=part)

    def test_what_follows(self):
        """A wish has a maker if its first stand is makeable; what is not makeable is shut otherwise."""
        for book, wish in WISHES:
            made, stands = makeable_stands(book, wish), stands_from(book, wish)
            self.assertIs(first_stand(wish) in made, can_make(book, wish))
            self.assertIs(shut_table(book, wish) is None, can_make(book, wish))
            self.assertLessEqual(set(made), set(stands))
            if first_stand(wish) not in made:
                check_shut_table(book, wish, tuple(stand for stand in stands if stand not in made))
            more = tuple(sorted((*book, ("q", "p -> q"))))
            self.assertLessEqual(set(made), set(makeable_stands(more, wish)))

    def test_not_usable(self):
        books = NO_BOOKS + [Book(PAIR)]
        self.check_parameters(first_stand, {"wish": "q"}, {"wish": NO_KINDS})
        self.check_parameters(heads_at, {"book": PAIR, "stand": ((), "p")}, {"book": books, "stand": NO_STANDS})
        self.check_parameters(stand_behind, {"stand": ((), "p"), "part": "q"}, {"stand": NO_STANDS, "part": NO_KINDS})
        for function in (stands_from, makeable_stands):
            self.check_parameters(function, {"book": PAIR, "wish": "q"}, {"book": books, "wish": NO_KINDS})


if __name__ == "__main__":
    unittest.main()
