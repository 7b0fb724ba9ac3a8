import random
import unittest

from books import LIST, PAIR
from checks import Checks
from makerly import numeral, places_in
from onlygiven.bookclasses import Book
from onlygiven.errors import NotMade
from onlygiven.judging import can_make
from onlygiven.pumping import pumped
from onlygiven.uses import most_uses, use_paper
from plainly import heads_in, makers_of_size, number_of_makers, size_of_maker, wishes_of_all_sorts
from usedly import use_fault
from values import ANY_VALUES, NO_BOOKS, NO_KINDS, NO_NAMES

WISHES = (
    wishes_of_all_sorts(48, 200, names=5) + wishes_of_all_sorts(481, 90, names=6, order=3)
    + wishes_of_all_sorts(482, 60, names=4, atoms=("p", "q"), size=6, order=3)
)


def layered(seed, count):
    """Books whose names only take what stands lower: so there are not endlessly many makers, but several uses."""
    rng, found = random.Random(seed), []
    for _ in range(count):
        book = []
        for name in "abcdef"[:rng.randint(2, 6)]:
            end = rng.choice((0, 0, 1, 2, 3))
            parts = [rng.choice(("pqrs"[k], f"(s -> {'pqrs'[k]})")) for k in rng.choices(range(end), k=rng.randint(0, 3))] if end else []
            book.append((name, " -> ".join([*parts, "pqrs"[end]])))
        found.append((tuple(book), rng.choice(("q", "r", "s", "p -> r", "q -> s"))))
    return found


WISHES = WISHES + layered(484, 120)

CASES = [(book, wish, name) for book, wish in WISHES for name, _ in book]


class UsesTest(Checks):
    def test_examples(self):
        self.assert_is([most_uses(PAIR, "q", "a"), most_uses(LIST, "p -> s", "nil"), most_uses(LIST, "p -> s", "cons")], [2, 1, None])

    def test_written_out(self):
        for book, wish, name, number in (
            (PAIR, "q", "f", 1), (PAIR, "q", "b", 2), (PAIR, "p", "a", 1), (PAIR, "p", "f", 0), (PAIR, "p -> q", "a", 2), (PAIR, "q -> p -> q", "f", 1),
            ((("f", "(p -> p) -> q"), ("g", "p -> p")), "q", "g", None), ((("f", "(p -> p) -> q"), ("g", "p -> p")), "q", "f", 1),
            ((("g", "p -> p"), ("x", "p")), "p", "x", 1), ((("g", "p -> p"), ("x", "p")), "p", "g", None), ((("g", "p -> p -> p"), ("x", "p")), "p", "x", None),
            ((("x", "p"),), "((p -> p) -> p) -> p", "x", 1), ((("x", "p"),), "(p -> p -> p) -> p", "x", None), ((("x", "p"),), "(p -> p) -> p -> p", "x", 1),
            # What can be used more and more often stands where nothing can be made.
            ((("dead", "r -> p -> q"), ("f", "q"), ("g", "p -> p"), ("x", "p")), "q", "g", 0),
            ((("dead", "r -> p -> q"), ("f", "q"), ("g", "p -> p"), ("x", "p")), "q", "dead", 0),
            # The name beside the way down, or on it.
            ((("a", "q"), ("b", "q"), ("g", "q -> p -> p"), ("x", "p")), "p", "b", None),
            ((("a", "q"), ("f", "p -> q -> p"), ("h", "r -> q"), ("m", "r"), ("x", "p")), "p", "m", None),
            ((("a", "p -> q"), ("b", "q -> p"), ("x", "p")), "q", "a", None), ((("a", "p -> q"), ("b", "r -> p"), ("x", "p")), "q", "a", 1),
            ((("a", "p"), ("f", "p -> p -> q"), ("g", "q -> q -> r"), ("h", "r -> r -> s")), "s", "a", 8),
        ):
            with self.subTest(book=book, wish=wish, name=name):
                self.assert_gives(number, most_uses, book=book, wish=wish, name=name)
                self.assertIsNone(use_fault(book, wish, name, use_paper(book, wish, name)))

    def test_by_going_through_makers(self):
        met = {}
        for book, wish, name in CASES:
            if not can_make(book, wish):
                self.assert_raises(NotMade, {"wish": wish}, most_uses, book, wish, name)
                self.assert_raises(NotMade, {"wish": wish}, use_paper, book=book, wish=wish, name=name)
                continue
            number = most_uses(book, wish, name)
            self.assert_gives(number, most_uses, book=book, wish=wish, name=name)
            many, size, uses = number_of_makers(book, wish), 0, []
            while len(uses) < (200 if many is None else many) and size < (7 if many is None or many > 300 else 60):
                size += 1
                uses += [heads_in(maker).count(name) for maker in makers_of_size(book, wish, size)]
            met[number] = met.get(number, 0) + 1
            if number is not None:
                self.assertLessEqual(max(uses, default=0), number)
            if len(uses) == many:
                self.assertEqual(max(uses), number)
            if number is None:
                self.assertIsNone(many)
        self.assertGreater(min(met.get(number, 0) for number in (None, 0, 1, 2, 3)), 10, met)

    def test_papers(self):
        greatest = 0
        for book, wish, name in CASES:
            if not can_make(book, wish):
                continue
            paper, number = use_paper(book, wish, name), most_uses(book, wish, name)
            self.assert_gives(paper, use_paper, book=book, wish=wish, name=name)
            self.assertIsNone(use_fault(book, wish, name, paper))
            self.assertEqual(paper[0], "endless" if number is None else "most")
            maker, uses = paper[1], heads_in(paper[1]).count(name)
            greatest = max(greatest, size_of_maker(maker))
            if number is None:
                for times in (1, 2, 5):
                    self.assertGreaterEqual(heads_in(pumped(book, wish, maker, paper[2], paper[3], times)).count(name), uses + times)
            else:
                self.assertEqual(uses, number)
        self.assertLess(greatest, 61)

    def test_least_makers_of_papers(self):
        """No lesser maker shows that there is no end."""
        met = {}
        for book, wish, name in CASES:
            if can_make(book, wish) and most_uses(book, wish, name) is None:
                found = [size for size in range(1, 6) if any(
                    use_fault(book, wish, name, ("endless", maker, place, deeper)) is None
                    for maker in makers_of_size(book, wish, size) for place in places_in(maker) for deeper in places_in(maker))]
                size = size_of_maker(use_paper(book, wish, name)[1])
                self.assertEqual(found[:1], [size] if size < 6 else [])
                met[size] = met.get(size, 0) + 1
        self.assertGreater(min(met.get(size, 0) for size in (2, 3, 4, 5)), 3, met)

    def test_more_names(self):
        """None is above all numbers."""
        for book, wish, name in CASES[::3]:
            if can_make(book, wish):
                before, after = most_uses(book, wish, name), most_uses(tuple(sorted((*book, ("q", "p -> q")))), wish, name)
                self.assertTrue(after is None or before is not None and before <= after)

    def test_great(self):
        book = (("a", "p"), ("f", "p -> p -> p -> p -> p -> p -> p -> q"), ("g", "q -> q -> q -> q -> q -> q -> q -> r"))
        self.assert_is([most_uses(book, "r", "a"), most_uses(book, "r", "f"), most_uses(book, "r", "g")], [49, 7, 1])
        self.assert_is(most_uses((("x", "p"),), "(p -> p) -> p -> p", "x"), 1)
        self.assertIsNone(use_fault((("s", "p -> p"), ("z", "p")), "(p -> p) -> p -> p", "s", ("endless", ("s", (numeral(0),)), (), (0,))))

    def test_not_usable(self):
        names = NO_NAMES + [thing for thing in ANY_VALUES if isinstance(thing, str) and thing not in ("a", "b", "f")] + ["c", "p", "q"]
        for function in (most_uses, use_paper):
            self.check_parameters(function, {"book": PAIR, "wish": "q", "name": "a"}, {
                "book": NO_BOOKS + [Book(PAIR)], "wish": NO_KINDS, "name": names})
            # A wrong name comes ahead of a wish without a maker.
            self.assert_unusable("name", -1, function, PAIR, "r", "c")


if __name__ == "__main__":
    unittest.main()
