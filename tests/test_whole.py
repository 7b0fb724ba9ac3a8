"""What the document promises over the whole program."""

import random
import unittest

from checks import Checks
from makerly import CHURCH, numeral
from onlygiven.benches import Bench
from onlygiven.benchlogs import replayed
from onlygiven.bookchanges import handed, instance_book, renamed
from onlygiven.builders import Builder
from onlygiven.countchecker import lets_count
from onlygiven.counting import count_paper, how_many, how_many_of
from onlygiven.errors import NotMade
from onlygiven.fillingcounts import filling_for, gives_all, how_many_fillings
from onlygiven.fillings import Filling
from onlygiven.handchecker import lets_handout
from onlygiven.handing import greatest_handouts, handout_paper, least_handouts
from onlygiven.instances import instance_maker
from onlygiven.judging import can_make, smallest_maker
from onlygiven.kindchanges import instance_of
from onlygiven.makerclasses import Maker
from onlygiven.makers import lets_maker, maker_size, names_in
from onlygiven.makerreadings import maker_read
from onlygiven.makertexts import maker_text
from onlygiven.naming import greatest_without, least_names, names_of_use, needed_names
from onlygiven.ordering import maker_at, number_of
from onlygiven.plainforms import applied, plain_of
from onlygiven.pricechecker import lets_price
from onlygiven.pricing import cheapest_maker, least_price, price_paper
from onlygiven.pumping import pumped
from onlygiven.recorders import Recorder
from onlygiven.shuttables import shut_table
from onlygiven.standing import first_stand, makeable_stands, stands_from
from onlygiven.tablechecker import lets_shut
from onlygiven.termforms import term_of
from onlygiven.usechecker import lets_uses
from onlygiven.uses import most_uses, use_paper
from onlygiven.worldchecker import lets_world
from onlygiven.worlds import world_of
from papers import all_sets
from plainly import heads_in, random_kind, wishes_of_all_sorts

WISHES = (
    wishes_of_all_sorts(8, 160, names=5) + wishes_of_all_sorts(801, 60, names=6, order=3)
    + wishes_of_all_sorts(802, 40, names=3, atoms=("p", "q"), size=6, order=3)
)

# At the bounds: eight names, four atoms, kinds of eight atoms and of order three, and a wish of ten atoms. What parts of
# parts open is one of six rows.
GREAT = (
    ("a", "((p -> q) -> r) -> (p -> s) -> p -> q -> s"), ("b", "(q -> p) -> ((q -> r) -> p) -> p -> r"), ("c", "p -> q -> r -> s -> p -> q -> r -> s"),
    ("d", "((r -> s) -> q) -> ((p -> q) -> s) -> q"), ("e", "r -> r -> r -> r -> r -> r -> r -> p"), ("f", "((p -> q) -> r) -> ((q -> r) -> s) -> q"),
    ("g", "(p -> q) -> (p -> q) -> (p -> q) -> r -> r"), ("h", "((p -> s) -> p) -> (q -> p) -> q -> r -> s"),
)

GREAT_WISHES = (
    "(p -> q) -> (q -> r) -> ((r -> s) -> p) -> q -> s -> p", "p -> p -> q -> q -> r -> r -> s -> s -> p -> q", "p -> q",
    "((p -> q) -> q) -> ((q -> r) -> r) -> p -> r -> s -> q", "((((p -> q) -> p) -> p) -> q) -> s -> r -> q -> p", "r", "s",
)


def is_less(one, other):
    """Whether one number is less than another one, None being above all."""
    return other is None and one is not None or None not in (one, other) and one < other


def maker_with(maker, names):
    head, makers = maker
    return names.get(head, head), tuple(maker_with(inner, names) for inner in makers)


def kind_with(kind, atoms):
    return " -> ".join(piece.replace(piece.strip("()"), atoms.get(piece.strip("()"), piece.strip("()"))) for piece in kind.split(" -> "))


class WholeTest(Checks):
    def stands_up(self, book, wish):
        """A maker, or else a shut table and a world; and all papers are accepted with the numbers that are told."""
        number = how_many(book, wish)
        made = number != 0
        self.assertIs(can_make(book, wish), made)
        self.assertIs(first_stand(wish) in makeable_stands(book, wish), made)
        self.assert_is(lets_count(book, wish, count_paper(book, wish)), number)
        table, world, maker = shut_table(book, wish), world_of(book, wish), smallest_maker(book, wish)
        if not made:
            self.assertIsNone(maker)
            self.assertEqual(lets_shut(book, wish, table), len(table))
            self.assertEqual(lets_world(book, wish, world), len(world))
            for function, *more in ((least_price, ()), (cheapest_maker, ()), (price_paper, ()), (needed_names,), (Builder,)):
                self.assert_raises(NotMade, {"wish": wish}, function, book, wish, *more)
            return
        self.assertEqual([table, world], [None, None])
        self.assertEqual(lets_maker(book, wish, maker), maker_size(maker))
        self.assert_is([maker_at(book, wish, 0), number_of(book, wish, maker)], [maker, 0])
        prices = tuple((name, k % 3 + 1) for k, (name, _) in enumerate(book))
        least = least_price(book, wish, prices)
        self.assert_is(lets_price(book, wish, prices, price_paper(book, wish, prices)), least)
        self.assertEqual(sum(dict(prices).get(head, 0) for head in heads_in(cheapest_maker(book, wish, prices))), least)
        for name, _ in book:
            self.assert_is(lets_uses(book, wish, name, use_paper(book, wish, name)), most_uses(book, wish, name))
        self.assertEqual(plain_of(book, term_of(book, wish, maker)), maker)
        self.assertEqual(Recorder(book)(term_of(book, wish, maker)), maker_text(maker))
        self.assertEqual(maker_read(maker_text(maker)), maker)

    def test_a_maker_or_else_a_table_and_a_world(self):
        many = 0
        for book, wish in WISHES:
            self.stands_up(book, wish)
            many += can_make(book, wish)
        self.assertGreater(min(many, len(WISHES) - many), 60)

    def test_bounds_by_hand(self):
        met = {}
        for many in (8, 5, 3):
            for wish in GREAT_WISHES:
                book = GREAT[:many]
                self.stands_up(book, wish)
                met[how_many(book, wish)] = True
                self.assertEqual(set(stands_from(book, wish)) & set(makeable_stands(book, wish)), set(makeable_stands(book, wish)))
        self.assertGreater(len(met), 1)
        let, barred = GREAT_WISHES[:3], GREAT_WISHES[4:]
        paper = handout_paper(GREAT, let, barred)
        self.assert_is(lets_handout(GREAT, let, barred, paper), len(paper[2]))
        for wish in GREAT_WISHES:
            self.assertLessEqual(set(needed_names(GREAT, wish)) if can_make(GREAT, wish) else set(), set(names_of_use(GREAT, wish)))
            for names in least_names(GREAT, wish):
                self.assertTrue(can_make(handed(GREAT, names), wish))
            for names in greatest_without(GREAT, wish):
                self.assertFalse(can_make(handed(GREAT, names), wish))
        bench = Bench(GREAT)
        for wish in let:
            bench.let_wish(wish)
        for wish in barred:
            bench.bar_wish(wish)
        self.assertEqual(bench.cures(), greatest_handouts(GREAT, bench.let_now, bench.barred_now))
        self.assertTrue(replayed(bench.log()) == bench)
        # Makers of sixty places, and of twelve levels.
        self.assertEqual(maker_size(maker_at((), CHURCH, 59)), 60)
        self.assertEqual(number_of((), CHURCH, numeral(59)), 59)
        self.assertEqual(applied((), CHURCH, numeral(59), (0, ())), (0, ()))
        self.assertEqual(str(Maker((), CHURCH, numeral(7)) >> Maker((), CHURCH, numeral(8))), maker_text(numeral(56)))

    def test_called_otherwise(self):
        """Names and atoms do not matter, except where makers are ordered by names."""
        rng = random.Random(803)
        for book, wish in WISHES[::2]:
            old = [name for name, _ in book]
            names = dict(zip(old, rng.sample(["p", "q", "ab", "zz", "c", "mm", "x", "k"], len(old))))
            atoms = dict(zip("pqr", rng.sample(["r", "a", "p", "zz", "ab", "q", "long"], 3)))
            other = book
            for k, name in enumerate(old):
                other = renamed(other, name, "tmp" + "abcdefgh"[k])
            for k, name in enumerate(old):
                other = renamed(other, "tmp" + "abcdefgh"[k], names[name])
            kinds = {name: kind_with(kind, atoms) for name, kind in other}
            other, kind = tuple((name, kinds[name]) for name, _ in other), kind_with(wish, atoms)
            self.assert_is(how_many(other, kind), how_many(book, wish))
            self.assert_is([how_many_of(other, kind, size) for size in range(7)], [how_many_of(book, wish, size) for size in range(7)])
            self.assertEqual(len(stands_from(other, kind)), len(stands_from(book, wish)))
            self.assertEqual(len(makeable_stands(other, kind)), len(makeable_stands(book, wish)))
            sets = lambda rows: tuple(sorted(tuple(sorted(names[name] for name in row)) for row in rows))
            self.assertEqual(least_names(other, kind), sets(least_names(book, wish)))
            self.assertEqual(greatest_without(other, kind), sets(greatest_without(book, wish)))
            self.assertEqual((names_of_use(other, kind),), sets([names_of_use(book, wish)]))
            self.assertEqual(world_of(other, kind) is None, world_of(book, wish) is None)
            only_atoms = tuple((name, kind_with(one, atoms)) for name, one in book)
            self.assertEqual(smallest_maker(only_atoms, kind), smallest_maker(book, wish))
            if can_make(book, wish):
                prices = tuple((name, rng.randrange(5)) for name in old)
                self.assertEqual(least_price(other, kind, tuple((names[name], price) for name, price in prices)), least_price(book, wish, prices))
                for name in old:
                    self.assert_is(most_uses(other, kind, names[name]), most_uses(book, wish, name))
                for k in range(3):
                    if is_less(k, how_many(book, wish)):
                        maker = maker_at(book, wish, k)
                        self.assertEqual(maker_at(only_atoms, kind, k), maker)
                        self.assertEqual(lets_maker(other, kind, maker_with(maker, names)), maker_size(maker))

    def test_more_names(self):
        rng = random.Random(804)
        for book, wish in WISHES[1::2]:
            more = tuple(sorted((*book, ("q", random_kind(rng, 4, ("p", "q", "r"), 2)))))
            self.assertFalse(is_less(how_many(more, wish), how_many(book, wish)))
            for size in range(1, 6):
                self.assertGreaterEqual(how_many_of(more, wish, size), how_many_of(book, wish, size))
            self.assertLessEqual(set(makeable_stands(book, wish)), set(makeable_stands(more, wish)))
            self.assertTrue(gives_all(more, book))
            if can_make(book, wish):
                prices = tuple((name, rng.randrange(5)) for name, _ in book)
                self.assertLessEqual(least_price(more, wish, (*prices, ("q", 1))), least_price(book, wish, prices))
                maker = smallest_maker(book, wish)
                self.assertEqual(lets_maker(more, wish, maker), maker_size(maker))
                for name, _ in book:
                    self.assertFalse(is_less(most_uses(more, wish, name), most_uses(book, wish, name)))

    def test_endless(self):
        """If and only if some atom is wanted below itself; then makers get greater without end."""
        many = 0
        for book, wish in WISHES:
            if how_many(book, wish) is None:
                _, maker, place, deeper = count_paper(book, wish)
                sizes = [lets_maker(book, wish, pumped(book, wish, maker, place, deeper, times)) for times in range(4)]
                self.assertEqual(len({high - low for low, high in zip(sizes, sizes[1:])}), 1)
                self.assertLess(sizes[0], sizes[1])
                many += 1
            else:
                self.assertEqual(sum(how_many_of(book, wish, size) for size in range(60)), how_many(book, wish))
        self.assertGreater(many, 40)

    def test_handouts(self):
        rng = random.Random(805)
        for book, wish in WISHES[::3]:
            self.assertEqual(least_handouts(book, (wish,), ()), least_names(book, wish))
            self.assertEqual(greatest_handouts(book, (), (wish,)), greatest_without(book, wish))
            let, barred = (wish,), (rng.choice(WISHES)[1],)
            least, greatest = least_handouts(book, let, barred), greatest_handouts(book, let, barred)
            for names in all_sets(book):
                own = handed(book, names)
                between = any(set(one) <= set(names) for one in least) and any(set(names) <= set(one) for one in greatest)
                self.assertIs(between, can_make(own, wish) and not can_make(own, barred[0]))

    def test_fillings_and_instances(self):
        rng, filled = random.Random(806), 0
        for (low, wish), (high, _) in zip(WISHES, WISHES[5:]):
            filling = filling_for(low, high)
            self.assertIs(filling is not None, gives_all(high, low))
            self.assertIs(filling is not None, how_many_fillings(low, high) != 0)
            if filling is not None and can_make(low, wish):
                maker = smallest_maker(low, wish)
                self.assertEqual(lets_maker(high, wish, filling(wish, maker)), maker_size(filling(wish, maker)))
                self.assertTrue(Filling.plain(low) >> filling == filling)
                filled += low != ()
            atom, other = rng.choice("pqr"), random_kind(rng, 3, ("p", "q", "r"), 2)
            book, kind = instance_book(low, atom, other), instance_of(wish, atom, other)
            self.assertFalse(is_less(how_many(book, kind), how_many(low, wish)))
            if can_make(low, wish):
                made = [maker_at(low, wish, k) for k in range(4) if is_less(k, how_many(low, wish))]
                instances = [instance_maker(low, wish, maker, atom, other) for maker in made]
                self.assertEqual(len(set(instances)), len(made))
                for maker in instances:
                    self.assertEqual(lets_maker(book, kind, maker), maker_size(maker))
        self.assertGreater(filled, 20)

    def test_each_maker_is_built_in_one_way(self):
        for book, wish in WISHES[::4]:
            for k in range(3):
                if is_less(k, how_many(book, wish)):
                    maker, builder = maker_at(book, wish, k), Builder(book, wish)
                    for head in heads_in(maker):
                        self.assertIn(head, builder.offers())
                        builder.take(head)
                    self.assertEqual([builder.is_done, builder.made_now], [True, maker])

    def test_needed_names(self):
        for book, wish in WISHES[::2]:
            if can_make(book, wish):
                needed = needed_names(book, wish)
                self.assertLessEqual(set(needed), set(names_in(smallest_maker(book, wish))))
                for name, _ in book:
                    others = tuple(entry for entry in book if entry[0] != name)
                    self.assertIs(name in needed, not can_make(others, wish))
                    self.assertIs(name in names_of_use(book, wish), most_uses(book, wish, name) != 0)


if __name__ == "__main__":
    unittest.main()
