import random
import unittest

from books import LIST, PAIR, PEIRCE, ROUND, SAFE
from checks import Checks
from onlygiven.bookclasses import Book
from onlygiven.builders import Builder
from onlygiven.counting import how_many, how_many_of
from onlygiven.errors import NotMade, NothingToUndo
from onlygiven.judging import can_make, smallest_maker
from plainly import (
    can_be_made, heads_in, kind_of_tree, makers_of_size, number_of_makers, tree_of, trees_in, wanted_places,
    wishes_of_all_sorts,
)
from values import ANY_VALUES, NO_BOOKS, NO_KINDS

WISHES = [(book, wish) for book, wish in (
    wishes_of_all_sorts(59, 300, names=5) + wishes_of_all_sorts(591, 150, names=6, order=3)
    + wishes_of_all_sorts(592, 100, names=3, atoms=("p", "q"), size=6, order=3)
) if can_make(book, wish)]

NEVER_HEADS = [thing for thing in ANY_VALUES if thing not in (0, 1, 7, "p", "abcdefgh") or isinstance(thing, bool)] + [
    "aaaaaaaa", 99, "0", (0,), [0], ("p",), Book(), Builder(PAIR, "q"),
]

TWICE = "(p -> p) -> p -> p"


def plain_offers(book, goal):
    """The heads behind which all goals still have makers, those that are there having some."""
    _, kinds, atom = goal
    trees, hand = trees_in(book), frozenset(tree_of(kind) for kind in kinds)
    heads = list(trees) + list(enumerate(tree_of(kind) for kind in kinds))
    return tuple(head for head, (parts, end) in heads
                 if end == atom and all(can_be_made(trees, hand, part) for part in parts))


def plain_goals(book, goals, head):
    """The goals behind this head for the first goal."""
    (place, kinds, _), *others = goals
    kind = tree_of(dict(book)[head] if isinstance(head, str) else kinds[head])
    behind = [((*place, k), (*kinds, *(kind_of_tree(inner) for inner in part[0])), part[1])
              for k, part in enumerate(kind[0])]
    return (*behind, *others)


def first_goals(wish):
    parts, end = tree_of(wish)
    return (((), tuple(kind_of_tree(part) for part in parts), end),)


class BuilderChecks(Checks):
    def shows(self, builder, book, goals, maker=None):
        """All that can be asked, asked twice, as asking changes nothing."""
        for _ in range(2):
            offers = plain_offers(book, goals[0]) if goals else ()
            self.assert_is(builder.goals_now, goals)
            self.assert_is(builder.is_done, not goals)
            self.assert_is(builder.offers(), offers)
            self.assert_is(builder.next_head, offers[0] if offers else None)
            self.assert_is(builder.tried(), goals)
            if goals:
                self.assertGreater(len(offers), 0)
                self.assertIsNone(builder.made_now)
            elif maker is not None:
                self.assert_is(builder.made_now, maker)

    def refuses(self, builder, thing):
        """Each way to take it, and nothing changes."""
        goals = builder.goals_now
        self.assert_unusable("head", -1, builder.take, thing)
        self.assert_unusable("head", -1, builder.take, head=thing)
        self.assert_unusable("head", -1, builder.set_next, thing)
        self.assert_unusable("head", -1, builder.set_next, head=thing)
        self.assert_unusable("head", -1, setattr, builder, "next_head", thing)
        self.assert_unusable("heads", 0, builder.tried, thing)
        self.assert_unusable("heads", 0, builder.tried, thing, thing)
        self.assert_unusable("head", -1, self.add, builder, thing)
        self.assertEqual(builder.goals_now, goals)

    @staticmethod
    def add(builder, head):
        builder += head
        return builder

    def taken(self, builder, head, way):
        """Takes the head in one of the ways there are."""
        if way == 0:
            return builder.take(head)
        if way == 1:
            return builder.set_next(head=head)
        if way == 2:
            builder.next_head = head
        else:
            self.assertIs(self.add(builder, head), builder)
        return len(builder.goals_now)


class BuilderTest(BuilderChecks):
    def test_examples(self):
        builder = Builder((), TWICE)
        self.assert_is([builder.offers(), builder.take(0), builder.goals_now, builder.tried(0, 1)], [
            (0, 1), 1, (((0,), ("p -> p", "p"), "p"),), ()])
        self.assert_is([
            builder.set_next(1), builder.made_now, builder.back(), builder.is_done, Builder(SAFE, "t").forced(),
        ], [0, (0, ((1, ()),)), 1, False, 2])

    def test_written_out(self):
        builder = Builder(book=PAIR, wish="p -> q")
        self.shows(builder, PAIR, (((), ("p",), "q"),))
        self.assert_is(builder.take(head="f"), 2)
        self.shows(builder, PAIR, (((0,), ("p",), "p"), ((1,), ("p",), "p")))
        self.assert_is(builder.offers(), ("a", "b", 0))
        self.assert_is(builder.set_next(head=0), 1)
        self.shows(builder, PAIR, (((1,), ("p",), "p"),))
        builder += "b"
        self.shows(builder, PAIR, (), ("f", ((0, ()), ("b", ()))))
        self.assert_is([builder.back(), builder.back(), builder.back()], ["b", 0, "f"])
        self.shows(builder, PAIR, first_goals("p -> q"))
        self.assert_raises(NothingToUndo, {"steps": 0}, builder.back)

    def test_only_what_can_be_finished_is_offered(self):
        book = (("dead", "r -> p"), ("live", "q -> p"), ("x", "q"))
        self.assert_is(Builder(book, "p").offers(), ("live",))
        self.assert_is(Builder(book, "r -> p").offers(), ("dead", "live"))
        self.assert_is(Builder(ROUND, "p -> p").offers(), ("g", 0))

    def test_variables_of_one_kind_are_offered_apart(self):
        self.assert_is(Builder((), "p -> q -> p -> p").offers(), (0, 2))

    def test_none_is_made(self):
        for book, wish in ((), PEIRCE), (ROUND, "p"), (LIST, "p"), ((), "p"):
            self.assert_raises(NotMade, {"wish": wish}, Builder, book, wish)
            self.assert_raises(NotMade, {"wish": wish}, Builder, book=book, wish=wish)

    def test_not_usable(self):
        self.check_parameters(Builder, {"book": PAIR, "wish": "q"}, {
            "book": NO_BOOKS + [Book(PAIR)], "wish": NO_KINDS})

    def test_led_at_random(self):
        for seed, (book, wish) in enumerate(WISHES):
            rng = random.Random(seed)
            builder, past = Builder(book, wish), [(None, first_goals(wish))]
            for _ in range(25):
                goals = past[-1][1]
                self.shows(builder, book, goals)
                if len(past) > 1 and (not goals or rng.random() < 0.3):
                    self.assert_is(builder.back(), past.pop()[0])
                elif goals:
                    head = rng.choice(plain_offers(book, goals[0]))
                    past.append((head, plain_goals(book, goals, head)))
                    self.assert_is(builder.tried(head), past[-1][1])
                    self.assert_is(self.taken(builder, head, rng.randrange(4)), len(past[-1][1]))
            while len(past) > 1:
                self.assert_is(builder.back(), past.pop()[0])
            self.assert_raises(NothingToUndo, {"steps": 0}, builder.back)
            self.shows(builder, book, first_goals(wish))

    def test_each_maker_is_made_of_its_heads(self):
        many = 0
        for book, wish in WISHES:
            for size in range(6):
                for maker in makers_of_size(book, wish, size)[:10]:
                    builder, goals = Builder(book, wish), first_goals(wish)
                    self.assert_is(builder.tried(*heads_in(maker)), ())
                    for head in heads_in(maker):
                        self.assertIn(head, builder.offers())
                        goals = plain_goals(book, goals, head)
                        self.assert_is(builder.take(head), len(goals))
                        self.assert_is(builder.goals_now, goals)
                    self.assert_is(builder.made_now, maker)
                    many += 1
        self.assertGreater(many, 300)

    def all_made(self, builder, most):
        """All makers of at most this size, by all offered heads."""
        if builder.is_done:
            return [builder.made_now]
        made = []
        for head in builder.offers():
            builder.take(head)
            if len(builder.goals_now) <= most - 1:
                made.extend(self.all_made(builder, most - 1))
            builder.back()
        return made

    def test_all_offers_lead_to_all_makers_once(self):
        for book, wish in WISHES:
            made = self.all_made(Builder(book, wish), 5)
            expected = [maker for size in range(6) for maker in makers_of_size(book, wish, size)]
            self.assertEqual(sorted(map(repr, made)), sorted(map(repr, expected)))
            self.assertEqual(len(made), sum(how_many_of(book, wish, size) for size in range(6)))
            number = how_many(book, wish)
            if number is not None and number < 40:
                self.assertEqual(len(self.all_made(Builder(book, wish), 10 ** 9)), number)

    def test_finished_whatever_is_taken(self):
        """From everywhere the first head of a least size leads on, so it ends: here all heads of a least maker."""
        for seed, (book, wish) in enumerate(WISHES):
            rng = random.Random(seed)
            builder = Builder(book, wish)
            for _ in range(6):
                if not builder.is_done:
                    builder.take(rng.choice(builder.offers()))
            while not builder.is_done:
                _, kinds, atom = builder.goals_now[0]
                rest = " -> ".join([f"({kind})" if " " in kind else kind for kind in kinds] + [atom])
                for head in heads_in(smallest_maker(book, rest)):
                    builder.take(head)
            wanted_places(book, wish, builder.made_now)

    def test_heads_that_are_not_offered(self):
        for book, wish in WISHES[:60]:
            builder = Builder(book, wish)
            for _ in range(4):
                offers = builder.offers()
                for thing in NEVER_HEADS:
                    self.refuses(builder, thing)
                for name, _ in book:
                    if name not in offers:
                        self.refuses(builder, name)
                for number in range(8):
                    if number not in offers:
                        self.refuses(builder, number)
                if offers:
                    builder.take(offers[-1])

    def test_true_is_not_one(self):
        builder = Builder((), TWICE)
        self.assert_is(builder.offers(), (0, 1))
        self.refuses(builder, True)
        self.refuses(builder, False)

    def test_tried(self):
        builder = Builder(PAIR, "p -> q")
        self.assert_is(builder.tried("f", 0, "a"), ())
        self.assert_unusable("heads", 1, builder.tried, "f", "f", "a")
        self.assert_unusable("heads", 3, builder.tried, "f", "a", "b", "a")
        self.assert_unusable("heads", 0, builder.tried, None, "a")
        self.assert_unusable("heads", 1, builder.tried, "f", True)
        self.shows(builder, PAIR, first_goals("p -> q"))

    def test_forced(self):
        for book, wish in WISHES:
            builder, goals, heads = Builder(book, wish), first_goals(wish), []
            while goals and len(plain_offers(book, goals[0])) == 1:
                heads.append(plain_offers(book, goals[0])[0])
                goals = plain_goals(book, goals, heads[-1])
            self.assert_is(builder.forced(), len(heads))
            self.assert_is(builder.forced(), 0)
            self.assert_is(builder.goals_now, goals)
            self.assertIs(number_of_makers(book, wish) == 1, not goals)
            for head in heads[::-1]:
                self.assert_is(builder.back(), head)
            self.assert_raises(NothingToUndo, {"steps": 0}, builder.back)

    def test_what_was_handed_out_is_not_the_builders(self):
        builder = Builder(PAIR, "q")
        before = builder.goals_now
        builder.take("f")
        self.assert_is(before, first_goals("q"))
        for name, value in (("goals_now", ()), ("is_done", True), ("made_now", None)):
            with self.assertRaises(AttributeError):
                setattr(builder, name, value)

    def test_two_builders(self):
        one, other = Builder(PAIR, "q"), Builder(PAIR, "q")
        one.take("f")
        self.shows(other, PAIR, first_goals("q"))

    def test_deep(self):
        """Twenty-six levels."""
        builder, goals = Builder((), "((p -> p) -> p) -> p"), first_goals("((p -> p) -> p) -> p")
        for _ in range(25):
            goals = plain_goals((), goals, 0)
            self.assert_is(builder.take(0), 1)
            self.assert_is(builder.goals_now, goals)
        self.assert_is(builder.offers(), tuple(range(26)))
        self.assert_is(builder.take(7), 0)
        self.assertEqual(heads_in(builder.made_now), [0] * 25 + [7])


class TrialTest(BuilderChecks):
    def test_the_builder_is_as_it_was(self):
        builder = Builder(PAIR, "q")
        builder.take("f")
        goals = builder.goals_now
        with builder.trial() as same:
            self.assertIs(same, builder)
            self.shows(builder, PAIR, goals)
            builder.take("b")
            builder.take("a")
            self.assert_is(builder.made_now, ("f", (("b", ()), ("a", ()))))
        self.shows(builder, PAIR, goals)
        self.assert_is(builder.back(), "f")

    def test_however_the_block_ends(self):
        builder = Builder(PAIR, "q")
        with self.assertRaises(ZeroDivisionError):
            with builder.trial():
                builder.take("f")
                raise ZeroDivisionError
        self.shows(builder, PAIR, first_goals("q"))
        with self.assertRaises(KeyboardInterrupt):
            with builder.trial():
                builder.take("f")
                raise KeyboardInterrupt
        for _ in range(3):
            with builder.trial():
                builder.take("f")
                continue
        self.shows(builder, PAIR, first_goals("q"))
        self.assert_raises(NothingToUndo, {"steps": 0}, builder.back)

    def test_back_within(self):
        builder = Builder(PAIR, "q")
        builder.take("f")
        with builder.trial():
            self.assert_raises(NothingToUndo, {"steps": 0}, builder.back)
            builder.take("a")
            with builder.trial():
                self.assert_raises(NothingToUndo, {"steps": 0}, builder.back)
                builder.take("b")
                self.assert_is(builder.back(), "b")
                self.assert_raises(NothingToUndo, {"steps": 0}, builder.back)
            self.assert_is(builder.back(), "a")
            self.assert_raises(NothingToUndo, {"steps": 0}, builder.back)
        self.assert_is(builder.back(), "f")
        self.assert_raises(NothingToUndo, {"steps": 0}, builder.back)

    def test_one_trial_more_than_once(self):
        builder = Builder(PAIR, "q")
        trial = builder.trial()
        builder.take("f")
        goals = builder.goals_now
        for _ in range(2):
            with trial:
                builder.take("a")
                with trial as same:
                    self.assertIs(same, builder)
                    builder.take("b")
                    self.assertTrue(builder.is_done)
                self.assert_is(builder.back(), "a")
                self.assert_raises(NothingToUndo, {"steps": 0}, builder.back)
            self.shows(builder, PAIR, goals)
        self.assert_is(builder.back(), "f")

    def test_at_random(self):
        for seed, (book, wish) in enumerate(WISHES[:150]):
            rng = random.Random(seed)
            builder = Builder(book, wish)
            self.led(rng, builder, book, [(None, first_goals(wish))], 3)
            self.shows(builder, book, first_goals(wish))

    def led(self, rng, builder, book, past, depth):
        """Leads the builder about in blocks within one another; past is what this block may take back."""
        for _ in range(6):
            goals, choice = past[-1][1], rng.random()
            if choice < 0.2 and depth:
                try:
                    with builder.trial() as same:
                        self.led(rng, same, book, [(None, goals)], depth - 1)
                        if rng.random() < 0.3:
                            raise ZeroDivisionError
                except ZeroDivisionError:
                    pass
            elif choice < 0.5:
                if len(past) > 1:
                    self.assert_is(builder.back(), past.pop()[0])
                else:
                    self.assert_raises(NothingToUndo, {"steps": 0}, builder.back)
            elif goals:
                head = rng.choice(plain_offers(book, goals[0]))
                past.append((head, plain_goals(book, goals, head)))
                self.taken(builder, head, rng.randrange(4))
            self.shows(builder, book, past[-1][1])
        if depth == 3:
            for head, _ in past[:0:-1]:
                self.assert_is(builder.back(), head)


if __name__ == "__main__":
    unittest.main()
