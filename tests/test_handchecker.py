import random
import unittest

from books import PAIR, SAFE
from checks import Checks
from judged import changed_handout, handout_fault
from onlygiven.bookclasses import Book
from onlygiven.errors import InvalidPaper
from onlygiven.handchecker import lets_handout
from onlygiven.handing import greatest_handouts, handout_paper, least_handouts
from papers import all_sets
from plainly import has_maker, kind_of_tree, tree_of, trees_within
from test_handing import CASES, NO_WISHES
from values import ANY_VALUES, NO_BOOKS

POOR, RICH = (("u", "v"), 0, (((), "q"),)), (("u", "v"), 0, ("u", (("v", ()),)))
AV, AU = [(("a", name), (("a", ()),), ((((), "s"), ((), "t")),) if name == "u" else ((((), "t"),),)) for name in "vu"]
GOOD = (AU, AV, (("a",), (("a", ()),), ((((), "t"),),)))
PAPER = ((POOR,), (RICH,), GOOD)

class HandCheckerTest(Checks):
    def judged(self, book, let, barred, thing):
        fault = handout_fault(book, let, barred, thing)
        if fault is None:
            self.assert_gives(len(thing[2]), lets_handout, book=book, let=let, barred=barred, thing=thing)
            self.shows(book, let, barred, thing[2])
            return None
        fields = {"word": fault[0], "at": fault[1]}
        self.assert_raises(InvalidPaper, fields, lets_handout, book, let, barred, thing)
        self.assert_raises(InvalidPaper, fields, lets_handout, book=book, let=let, barred=barred, thing=thing)
        return fault[0]

    def shows(self, book, let, barred, good):
        """The handouts are exactly the sets that include one of the good sets and lie in one."""
        sets = [set(names) for names, _, _ in good]
        for names in all_sets(book):
            own = tuple(entry for entry in book if entry[0] in names)
            handout = all(has_maker(own, wish) for wish in let) and not any(has_maker(own, wish) for wish in barred)
            told = any(one <= set(names) for one in sets) and any(set(names) <= one for one in sets)
            self.assertIs(told, handout)

    def test_examples(self):
        self.assert_is([greatest_handouts(SAFE, ("q",), ("t",)), least_handouts(SAFE, ("q",), ("t",))],
                       [(("a", "u"), ("a", "v")), (("a",),)])
        self.assert_raises(InvalidPaper, {"word": "left", "at": ("a",)}, lets_handout, SAFE, ("q",), ("t",), (
            (POOR,), (RICH,), ((("a", "v"), (("a", ()),), ((((), "t"),),)),)))

    def test_written_out(self):
        self.assert_gives(3, lets_handout, book=SAFE, let=("q",), barred=("t",), thing=PAPER)
        table, maker = (((), "q"),), ("u", (("v", ()),))
        for thing, word, at in (
            (None, "shape", -1), (list(PAPER), "shape", -1), (PAPER[:2], "shape", -1), ((*PAPER, ()), "shape", -1),
            ((POOR, (RICH,), GOOD), "shape", -1), (((POOR,), [RICH], GOOD), "shape", -1), (((POOR[:2],), (RICH,), GOOD), "shape", -1),
            (((POOR,), (RICH,), (*GOOD, None)), "shape", -1), (((("zz", 5, 6),), (RICH,), (None,)), "shape", -1),
            ((((("v", "u"), 0, table),), (RICH,), GOOD), "set", (0, 0)), (((POOR, (("zz",), 7, 7)), (RICH,), GOOD), "set", (0, 1)),
            (((POOR, (["u"], 7, 7)), (RICH,), GOOD), "set", (0, 1)), (((POOR, (("u", "u"), 7, 7)), (RICH,), GOOD), "set", (0, 1)),
            (((POOR, (("u",), 1, 7)), (RICH,), GOOD), "wish", (0, 1)), (((POOR, (("u",), True, 7)), (RICH,), GOOD), "wish", (0, 1)),
            (((POOR, (("u",), -1, 7)), (RICH,), GOOD), "wish", (0, 1)), (((POOR, (("u",), "0", 7)), (RICH,), GOOD), "wish", (0, 1)),
            (((POOR, (("u",), 0, 7)), (RICH,), GOOD), "paper", (0, 1)), (((POOR, (("a",), 0, table)), (RICH,), GOOD), "paper", (0, 1)),
            (((POOR, (("u",), 0, (((), "t"),))), (RICH,), GOOD), "paper", (0, 1)),
            (((POOR,), (RICH, (("u",), 0, maker)), GOOD), "paper", (1, 1)), (((POOR,), (RICH, (("u",), 1, maker)), GOOD), "wish", (1, 1)),
            (((POOR,), (RICH, (("v", "v"), 9, maker)), GOOD), "set", (1, 1)), (((POOR,), (RICH, (("u", "v"), 0, table)), GOOD), "paper", (1, 1)),
            (((POOR,), (RICH,), (AU, (("b",), 3, 3))), "set", (2, 1)), (((POOR,), (RICH,), (AU, (("a", "v"), 3, ()))), "paper", (2, 1)),
            (((POOR,), (RICH,), (AU, (("a", "v"), (), AV[2]))), "paper", (2, 1)),
            (((POOR,), (RICH,), (AU, (("a", "v"), AV[1] * 2, AV[2]))), "paper", (2, 1)),
            (((POOR,), (RICH,), (AU, (("a", "v"), AV[1], ()))), "paper", (2, 1)),
            (((POOR,), (RICH,), (AU, (("a", "v"), AV[1], (((), "t"),)))), "paper", (2, 1)),
            (((POOR,), (RICH,), (AU, (("a", "v"), list(AV[1]), AV[2]))), "paper", (2, 1)),
            (((POOR,), (RICH,), (AU, AV)), "left", ("a",)), (((), (RICH,), GOOD), "left", ()), (((POOR,), (), GOOD), "left", ("a", "u", "v")),
            (((POOR,), (RICH,), ()), "left", ("a",)), (((POOR,), (RICH,), GOOD[1:]), "left", ("a", "u")),
            ((((("u",), 0, table),), (RICH,), GOOD), "left", ("v",)),
        ):
            with self.subTest(thing=thing):
                self.assertEqual(handout_fault(SAFE, ("q",), ("t",), thing), (word, at))
                self.judged(SAFE, ("q",), ("t",), thing)
        # Nothing let and nothing barred: every set is a handout.
        for thing, word in ((((), (), ()), "left"), (((), (), (((), (), ()),)), "left"),
                            (((), (), (((), (), ()), (("a", "b", "f"), (), ()))), None)):
            self.assertEqual(self.judged(PAIR, (), (), thing), word)
        self.assert_is(lets_handout((), (), (), ((), (), (((), (), ()),))), 1)
        self.assert_is(lets_handout((), ("p",), ("p",), ((((), 0, (((), "p"),)),), (), ())), 0)

    def test_any_value(self):
        for thing in ANY_VALUES + [Book(), (Book(),) * 3]:
            for paper in (
                thing, (thing, thing, thing), (thing, (RICH,), GOOD), ((POOR,), thing, GOOD), ((POOR,), (RICH,), thing),
                ((thing,), (RICH,), GOOD), ((POOR,), (RICH,), (*GOOD, thing)), (((thing, 0, POOR[2]),), (RICH,), GOOD),
                (((POOR[0], thing, POOR[2]),), (RICH,), GOOD), (((POOR[0], 0, thing),), (RICH,), GOOD),
                ((POOR,), ((thing, 0, RICH[2]),), GOOD), ((POOR,), ((RICH[0], thing, RICH[2]),), GOOD),
                ((POOR,), ((RICH[0], 0, thing),), GOOD), ((POOR,), (RICH,), (*GOOD, (thing, AV[1], AV[2]))),
                ((POOR,), (RICH,), (*GOOD, (AV[0], thing, AV[2]))), ((POOR,), (RICH,), (*GOOD, (AV[0], AV[1], thing))),
                ((POOR,), (RICH,), (*GOOD, (AV[0], (thing,), AV[2]))), ((POOR,), (RICH,), (*GOOD, (AV[0], AV[1], (thing,)))),
            ):
                self.judged(SAFE, ("q",), ("t",), paper)

    def test_papers(self):
        """Those of the package, with one change and with two, and those of other questions."""
        rng, met, accepted = random.Random(52), {}, 0
        for book, let, barred in CASES[::2]:
            paper = handout_paper(book, let, barred)
            self.assertIsNone(self.judged(book, let, barred, paper))
            given = [*dict(book).values(), *let, *barred, "p"]
            kinds = sorted({kind_of_tree(tree) for kind in given for tree in trees_within(tree_of(kind))})
            names = [name for name, _ in book]
            for _ in range(10):
                changed = changed_handout(rng, paper, kinds, ("p", "q", "r"), names + [0, 1], names)
                if rng.random() < 0.4 and handout_fault(book, let, barred, changed) is None:
                    changed = changed_handout(rng, changed, kinds, ("p", "q", "r"), names + [0, 1], names)
                word = self.judged(book, let, barred, changed)
                met[word] = met.get(word, 0) + 1
                accepted += word is None and changed != paper
            other = rng.choice(CASES)
            self.judged(other[0], let, barred, paper)
            self.judged(book, other[1], other[2], paper)
        self.assertEqual(set(met), {None, "shape", "set", "wish", "paper", "left"})
        self.assertGreater(min(met.values()), 30, met)
        self.assertGreater(accepted, 60)

    def test_eight_names(self):
        book = tuple((name, "p" if name in "abcd" else "q") for name in "abcdefgh")
        paper = handout_paper(book, ("p",), ("q",))
        self.assert_is(lets_handout(book, ("p",), ("q",), paper), len(paper[2]))
        poor, rich, good = paper
        rows = tuple(row for row in good if row[0] != ("a", "b", "c", "d"))
        self.assertLess(len(rows), len(good))
        self.assert_raises(InvalidPaper, {"word": "left", "at": ("a", "b")}, lets_handout, book, ("p",), ("q",), (poor, rich, rows))

    def test_not_usable(self):
        self.check_parameters(lets_handout, {"book": SAFE, "let": ("q",), "barred": ("t",), "thing": None}, {
            "book": NO_BOOKS + [Book(SAFE)], "let": NO_WISHES, "barred": NO_WISHES})


if __name__ == "__main__":
    unittest.main()
