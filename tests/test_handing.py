import random
import unittest

from books import PAIR, ROUND, SAFE
from checks import Checks
from onlygiven.bookclasses import Book
from onlygiven.handing import greatest_handouts, handout_paper, least_handouts
from onlygiven.naming import greatest_without, least_names
from papers import all_sets, check_handout_paper, part_of_book
from plainly import has_maker, random_book, random_kind
from test_naming import greatest_of, least_of
from values import ANY_VALUES, NO_BOOKS, NO_KINDS, is_plainly_a_kind


def cases(seed, count, atoms, order):
    """Books with wishes to let and to bar, some of them equal."""
    rng, found = random.Random(seed), []
    for _ in range(count):
        book = random_book(rng, 5, 4, atoms, order)
        # Wishes of the first sort have makers more often than the others.
        wishes = [kind for _, kind in book] + [f"{atom} -> {kind}" for atom in atoms for _, kind in book] + ["p -> p"]
        others = [random_kind(rng, 3, atoms, order) for _ in range(4)] + [*atoms]
        let = tuple(rng.choice(rng.choice((wishes, wishes, others))) for _ in range(rng.choice((0, 1, 1, 2, 3))))
        barred = tuple(rng.choice(others) for _ in range(rng.choice((0, 1, 1, 1, 2, 3))))
        found.append((book, let, barred))
    return found


CASES = cases(51, 250, ("p", "q", "r"), 2) + cases(511, 100, ("p", "q"), 3) + cases(512, 100, ("p", "q", "r", "s"), 1)

NO_WISHES = [
    thing for thing in ANY_VALUES if not isinstance(thing, tuple) or not all(map(is_plainly_a_kind, thing))
] + [(kind,) for kind in NO_KINDS] + [("p", kind, "q") for kind in NO_KINDS[::5]] + ["p", ["p"], ("p", ["q"]), (("p",),)]


def handouts(book, let, barred):
    return [names for names in all_sets(book)
            if all(has_maker(part_of_book(book, names), wish) for wish in let)
            and not any(has_maker(part_of_book(book, names), wish) for wish in barred)]


class HandingTest(Checks):
    def test_example(self):
        self.assert_is([greatest_handouts(SAFE, ("q",), ("t",)), least_handouts(SAFE, ("q",), ("t",))],
                       [(("a", "u"), ("a", "v")), (("a",),)])

    def test_by_going_through_all_sets(self):
        met = {}
        for book, let, barred in CASES:
            sets = handouts(book, let, barred)
            self.assert_gives(greatest_of(sets), greatest_handouts, book=book, let=let, barred=barred)
            self.assert_gives(least_of(sets), least_handouts, book=book, let=let, barred=barred)
            many = len(greatest_of(sets))
            met[many] = met.get(many, 0) + 1
        self.assertGreater(min(met[many] for many in (0, 1, 2)), 5)
        self.assertGreater(len(met), 3)

    def test_papers(self):
        for book, let, barred in CASES:
            for paper in (handout_paper(book, let, barred), handout_paper(book=book, let=let, barred=barred)):
                check_handout_paper(book, let, barred, paper)

    def test_what_papers_show(self):
        """The handouts are exactly the sets that include one of the good sets and lie in one."""
        for book, let, barred in CASES[::2]:
            good = [set(names) for names, _, _ in handout_paper(book, let, barred)[2]]
            shown = [names for names in all_sets(book)
                     if any(one <= set(names) for one in good) and any(set(names) <= one for one in good)]
            self.assertEqual(shown, handouts(book, let, barred))

    def test_the_checker_of_these_tests(self):
        paper = poor, rich, good = handout_paper(SAFE, ("q",), ("t",))
        check_handout_paper(SAFE, ("q",), ("t",), paper)
        for wrong in ((poor[1:], rich, good), (poor, rich[1:], good), (poor, rich, good[1:]), (poor, rich, ()), ((), (), ()),
                      ((("u", "v"), 0, ()), rich, good), (poor, ((("u", "v"), 0, ("v", ())),), good), list(paper),
                      ((*poor, (("v", "u"), 0, poor[0][2])), rich, good), (poor, rich, ((*good[0][:2], ()), *good[1:]))):
            with self.assertRaises((AssertionError, ValueError, TypeError, KeyError)):
                check_handout_paper(SAFE, ("q",), ("t",), wrong)

    def test_written_out(self):
        for book, let, barred, greatest, least in (
            (SAFE, (), (), (("a", "u", "v"),), ((),)), (SAFE, ("q",), (), (("a", "u", "v"),), (("a",),)),
            (SAFE, (), ("q",), (("u", "v"),), ((),)), (SAFE, ("q",), ("q",), (), ()), (SAFE, ("t", "t"), ("q",), (("u", "v"),), (("u", "v"),)),
            (SAFE, ("q", "r"), (), (), ()), (SAFE, (), ("p -> p",), (), ()), (SAFE, ("s -> t",), ("t",), (("a", "u"),), (("u",),)),
            (PAIR, ("q",), (), (("a", "b", "f"),), (("a", "f"), ("b", "f"))), (PAIR, (), ("q",), (("a", "b"), ("f",)), ((),)),
            (ROUND, ("q -> p",), ("p",), (("f", "g"),), (("g",),)), ((), (), ("p",), ((),), ((),)), ((), ("p",), (), (), ()),
            ((), (), (), ((),), ((),)),
        ):
            with self.subTest(book=book, let=let, barred=barred):
                self.assert_gives(greatest, greatest_handouts, book=book, let=let, barred=barred)
                self.assert_gives(least, least_handouts, book=book, let=let, barred=barred)
                check_handout_paper(book, let, barred, handout_paper(book, let, barred))

    def test_one_wish_and_nothing_barred(self):
        for book, let, barred in CASES:
            for wish in let[:1]:
                self.assert_is(least_handouts(book, (wish,), ()), least_names(book, wish))
            for wish in barred[:1]:
                self.assert_is(greatest_handouts(book, (), (wish,)), greatest_without(book, wish))

    def test_order_and_repetitions_do_not_count(self):
        for book, let, barred in CASES[::3]:
            for function in (greatest_handouts, least_handouts):
                self.assert_is(function(book, let[::-1] + let, barred[::-1] + barred), function(book, let, barred))

    def test_at_the_limits(self):
        book = (("a", "p"), ("b", "p -> q"), ("c", "q -> r"), ("d", "(p -> r) -> s"), ("e", "s -> p"), ("f", "q"),
                ("g", "(q -> s) -> r"), ("h", "r -> q -> p"))
        let, barred = ("r", "q -> r", "q -> q"), ("s", "p", "(r -> q) -> s")
        sets = handouts(book, let, barred)
        self.assertGreater(len(sets), 5)
        self.assert_is(greatest_handouts(book, let, barred), greatest_of(sets))
        self.assert_is(least_handouts(book, let, barred), least_of(sets))
        check_handout_paper(book, let, barred, handout_paper(book, let, barred))

    def test_not_usable(self):
        for function in (greatest_handouts, least_handouts, handout_paper):
            self.check_parameters(function, {"book": SAFE, "let": ("q",), "barred": ("t",)}, {
                "book": NO_BOOKS + [Book(SAFE)], "let": NO_WISHES, "barred": NO_WISHES})


if __name__ == "__main__":
    unittest.main()
