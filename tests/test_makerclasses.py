import random
import unittest

from books import LIST, PAIR
from checks import Checks
from makerly import CHURCH, numeral, places_in, part_of, random_maker
from onlygiven.bookclasses import Book
from onlygiven.errors import InvalidText
from onlygiven.makerclasses import Maker
from onlygiven.makertexts import maker_text
from onlygiven.plainforms import applied
from oracles import changed_texts, maker_column, maker_in
from plainly import heads_in, kind_of_tree, makers_of_size, random_book, random_kind, tree_of, wishes_of_all_sorts
from termly import plain_by_values, written_out
from values import ANY_VALUES, NO_BOOKS, NO_KINDS, NO_MAKERS, NO_PLACES, NO_STRINGS

BOOK = (("a", "p"), ("f", "p -> q"), ("g", "q -> p -> r"), ("h", "(p -> q) -> q -> p"))

WISHES = wishes_of_all_sorts(31, 80, names=5) + wishes_of_all_sorts(311, 40, names=4, order=3)

MADE = [(book, wish, maker) for book, wish in WISHES
        for size in range(1, 6) for maker in makers_of_size(book, wish, size)[:3]]


def kind_with(parts, end):
    return " -> ".join([f"({part})" if "-" in part else part for part in parts] + [end])


def parts_and_end(kind):
    parts, end = tree_of(kind)
    return [kind_of_tree(part) for part in parts], end


def chains(seed, count, length):
    """A book, and so many wishes with makers of which each takes what the one before makes."""
    rng, found = random.Random(seed), []
    while len(found) < count:
        book = random_book(rng, 4, 4, ("p", "q"), 2)
        kinds = [random_kind(rng, 3, ("p", "q"), 2) for _ in range(length + 1)]
        wishes = [kind_with([one, *parts_and_end(two)[0]], parts_and_end(two)[1]) for one, two in zip(kinds, kinds[1:])]
        makers = [random_maker(rng, book, wish, 4) for wish in wishes]
        given = random_maker(rng, book, kinds[0], 4)
        if None not in makers:
            found.append((book, kinds, list(zip(wishes, makers)), given))
    return found


def behind_by_terms(book, wish, maker, other_wish, other):
    """The wish and the plain form of first the maker, then the other one, by a term that is written out."""
    names = ["".join(("v", one, two)) for one in "abcdefghij" for two in "abcdefghij"]
    first, then = written_out(book, wish, maker, names), written_out(book, other_wish, other, names)
    part = parts_and_end(wish)[0][0]
    term = ("fun", (("x", part),), ("call", then, (("call", first, ("x",)),)))
    rows, end = parts_and_end(other_wish)
    return kind_with([part, *rows[1:]], end), plain_by_values(book, term)


class MakerChecks(Checks):
    def assert_maker(self, maker, book, wish, form):
        self.assertIs(type(maker), Maker)
        self.assert_is(maker.form, form)
        self.assertTrue(maker == Maker(book, wish, form))


class MakerTest(MakerChecks):
    def test_examples(self):
        twice = Maker((), CHURCH, (0, ((0, ((1, ()),)),)))
        self.assert_is(
            [str(twice >> twice), str(Maker.same((), "p -> p")), twice(Maker.same((), "p")).form, twice[(0,)], len(twice)],
            ["0(0(0(0(1))))", "0(1)", (0, ()), 0, 3])

    def test_what_it_tells(self):
        for book, wish, form in MADE:
            for maker in (Maker(book, wish, form), Maker(book=book, wish=wish, form=form)):
                self.assert_is([maker.form, len(maker), str(maker)], [form, len(places_in(form)), maker_text(form)])
                for place in places_in(form):
                    self.assert_is(maker[place], part_of(form, place)[0])
                heads = [head for head in heads_in(form) if isinstance(head, str)]
                for thing in [*dict(book), 0, 1, "0", "zz", None, True, (), [], (heads or [""])[0:1], maker, Book(book)]:
                    self.assertIs(thing in maker, isinstance(thing, str) and thing in heads)
                self.assertTrue(maker == Maker(book, wish, form))

    def test_no_places(self):
        maker = Maker(BOOK, "r", ("g", (("f", (("a", ()),)), ("a", ()))))
        self.assert_is([maker[()], maker[(0,)], maker[(0, 0)], maker[(1,)]], ["g", "f", "a", "a"])
        for thing in NO_PLACES + [(2,), (0, 0, 0), (1, 0), maker, Book(BOOK), (maker,), [], 0]:
            self.assert_unusable("place", -1, lambda at: maker[at], thing)
        with self.assertRaises(TypeError):
            iter(maker)
        with self.assertRaises(AttributeError):
            maker.form = ("a", ())

    def test_equal(self):
        one = Maker(PAIR, "p -> p", (0, ()))
        others = [
            Maker(PAIR[:2], "p -> p", (0, ())), Maker((), "p -> p", (0, ())), Maker(PAIR, "p -> p", ("a", ())),
            Maker(PAIR, "q -> q", (0, ())), Maker(PAIR, "p -> q -> p", (0, ())), Maker.same((), "p"),
            (PAIR, "p -> p", (0, ())), (0, ()), "0", Book(PAIR), None, [], True,
        ]
        for other in others + ANY_VALUES:
            self.assertIs(one == other, False)
            self.assertIs(other == one, False)
            self.assertIs(one != other, True)
        for other in (Maker(PAIR, "p -> p", (0, ())), Maker.same(PAIR, "p"), Maker.read(PAIR, "p -> p", "0"), one):
            self.assertIs(one == other, True)
            self.assertIs(one != other, False)

    def test_deep(self):
        form = ("x", ())
        for _ in range(1500):
            form = ("f", (form,))
        one, two = [Maker((("f", "p -> p"), ("x", "p")), "p", thing) for thing in (form, ("f", (form,)))]
        self.assertTrue(one == Maker.read((("f", "p -> p"), ("x", "p")), "p", str(one)))
        self.assertFalse(one == two)
        self.assertEqual([len(one), len(two), one[(0,) * 1500]], [1501, 1502, "x"])

    def test_not_usable(self):
        wrong = {"book": NO_BOOKS + [Book(PAIR), Maker.same((), "p")], "wish": NO_KINDS + [Maker.same((), "p")]}
        forms = NO_MAKERS + [("a", ()), ("f", (("a", ()),)), ("f", (("a", ()), (0, ()))), Maker.same((), "p")]
        good = {"book": PAIR, "wish": "q", "form": ("f", (("a", ()), ("b", ())))}
        self.check_parameters(Maker, good, {**wrong, "form": forms})
        self.check_parameters(Maker.same, {"book": PAIR, "kind": "q"}, {"book": wrong["book"], "kind": wrong["wish"]})
        self.check_parameters(Maker.read, {"book": PAIR, "wish": "q", "text": "f(a, b)"}, {
            **wrong, "text": NO_STRINGS + ["a", "f", "f(a)", "f(a, 0)", "f(a, b, b)", "zz", "0", Maker.same((), "p")]})


class CallTest(MakerChecks):
    def test_calls(self):
        many = 0
        for book, _, ((wish, form), *_), given in chains(312, 120, 1):
            if given is not None:
                many += 1
                parts, end = parts_and_end(wish)
                maker, other = Maker(book, wish, form), Maker(book, parts[0], given)
                for made in (maker(other), maker(other=other)):
                    self.assert_maker(made, book, kind_with(parts[1:], end), applied(book, wish, form, given))
                self.assert_is([maker.form, other.form], [form, given])
        self.assertGreater(many, 50)

    def test_wrong_calls(self):
        maker = Maker(BOOK, "p -> q", ("f", ((0, ()),)))
        self.assert_maker(maker(Maker(BOOK, "p", ("a", ()))), BOOK, "q", ("f", (("a", ()),)))
        for other in ANY_VALUES + [
            ("a", ()), "a", Book(BOOK), Maker(PAIR, "p", ("a", ())), Maker(BOOK, "q", ("f", (("a", ()),))), maker,
            Maker(BOOK[:1], "p", ("a", ())), Maker(BOOK, "p -> p", (0, ())),
        ]:
            self.assert_unusable("other", -1, maker, other)
            self.assert_unusable("other", -1, maker, other=other)
            self.assert_unusable("other", -1, Maker(BOOK, "p", ("a", ())), other)
        self.assert_unusable("other", -1, Maker(BOOK, "p", ("a", ())), Maker(BOOK, "p", ("a", ())))


class BehindTest(MakerChecks):
    def test_one_behind_the_other(self):
        for book, kinds, ((wish, form), (other_wish, other)), given in chains(313, 150, 2):
            one, two = Maker(book, wish, form), Maker(book, other_wish, other)
            kind, plain = behind_by_terms(book, wish, form, other_wish, other)
            made = one >> two
            self.assert_maker(made, book, kind, plain)
            if given is not None:
                argument = Maker(book, kinds[0], given)
                self.assertTrue(made(argument) == two(one(argument)))
            self.assertTrue(Maker.same(book, kinds[0]) >> one == one)
            self.assertTrue(one >> Maker.same(book, kinds[1]) == one)
            self.assertTrue(Maker.read(book, kind, str(made)) == made)

    def test_three(self):
        for book, kinds, rows, given in chains(314, 80, 3):
            one, two, three = [Maker(book, wish, form) for wish, form in rows]
            made = (one >> two) >> three
            self.assertTrue(made == one >> (two >> three))
            if given is not None:
                argument = Maker(book, kinds[0], given)
                self.assertTrue(made(argument) == three(two(one(argument))))

    def test_what_is_left(self):
        """What stands behind the first parts of the one that comes first is handed on as a function."""
        one = Maker(BOOK, "p -> p -> q", ("f", ((1, ()),)))
        two = Maker(BOOK, "(p -> q) -> q -> p", ("h", ((0, ((2, ()),)), (1, ()))))
        made = one >> two
        self.assert_maker(made, BOOK, "p -> q -> p", ("h", (("f", ((2, ()),)), (1, ()))))
        power = f"({CHURCH}) -> {CHURCH}"
        for number in range(4):
            times = Maker(BOOK, CHURCH, numeral(number))
            self.assert_maker(times >> times, BOOK, CHURCH, numeral(number * number))
            self.assert_maker(times >> Maker.same(BOOK, "p -> p"), BOOK, CHURCH, numeral(number))
            self.assert_maker(Maker.same(BOOK, CHURCH)(times), BOOK, CHURCH, numeral(number))
            self.assertTrue(Maker.same(BOOK, CHURCH) == Maker(BOOK, power, (0, ((1, ((3, ()),)), (2, ())))))

    def test_wrong(self):
        one = Maker(BOOK, "p -> q", ("f", ((0, ()),)))
        for other in ANY_VALUES + [
            ("a", ()), Book(BOOK), one, Maker(BOOK, "p", ("a", ())), Maker(BOOK, "q", ("f", (("a", ()),))), Maker.same((), "q"),
            Maker.same(BOOK[:1], "q"), Maker.same(BOOK, "p -> q"), Maker(BOOK, "p -> q -> p", (0, ())),
        ]:
            self.assert_unusable("other", -1, lambda thing: one >> thing, other)
        for other in (Maker.same(BOOK, "p"), one, Maker(BOOK, "p", ("a", ()))):
            self.assert_unusable("other", -1, lambda thing: Maker(BOOK, "p", ("a", ())) >> thing, other)


class ReadTest(MakerChecks):
    def test_read(self):
        for book, wish, form in MADE:
            text = maker_text(form)
            for maker in (Maker.read(book, wish, text), Maker.read(book=book, wish=wish, text=text)):
                self.assert_maker(maker, book, wish, form)
                self.assert_is(str(maker), text)

    def test_changed_texts(self):
        makers = [maker for size in range(1, 5) for maker in makers_of_size(BOOK, "p -> r", size)]
        texts = {maker_text(maker): maker for maker in makers}
        for text in changed_texts("g(f(0), a)"):
            form = maker_in(text)
            if text in texts:
                self.assert_maker(Maker.read(BOOK, "p -> r", text), BOOK, "p -> r", texts[text])
            elif form is not None:
                self.assert_unusable("text", -1, Maker.read, BOOK, "p -> r", text)
            else:
                self.assert_raises(InvalidText, {"line": 0, "column": maker_column(text)}, Maker.read, BOOK, "p -> r", text)
                self.assert_unusable("wish", -1, Maker.read, BOOK, "(p)", text)

    def test_same(self):
        for kind in ("p", "p -> q", "(p -> q) -> r", "p -> (q -> (p -> r) -> q) -> p"):
            maker = Maker.same(LIST, kind)
            self.assertEqual(plain_by_values(LIST, ("fun", (("x", kind),), "x")), maker.form)
            parts, end = parts_and_end(kind)
            self.assert_maker(maker, LIST, kind_with([kind, *parts], end), maker.form)
            self.assert_is(Maker.same(book=LIST, kind=kind).form, maker.form)


if __name__ == "__main__":
    unittest.main()
