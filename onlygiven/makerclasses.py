"""Makers as objects."""

from onlygiven.errors import InvalidPaper, NotUsable
from onlygiven.kinds import is_book, is_kind
from onlygiven.kindsplits import end_in, kind_with, parts_in
from onlygiven.makerreadings import maker_read
from onlygiven.makers import names_in
from onlygiven.makertexts import maker_text
from onlygiven.makerwalks import part_found, spots_of, usable_spots
from onlygiven.normals import Made, Meant, form_of, plain_maker, values_of_names
from onlygiven.outlooks import check_wish
from onlygiven.usable import check_usable

# Terms whose plain forms are asked for where the kinds are known, so that those of their variables do not matter.
ONE_BEHIND_THE_OTHER = ("fun", (("x", "p"),), ("call", "then", (("call", "first", ("x",)),)))
HANDED_ON = ("fun", (("x", "p"),), "x")


def with_first(part, kind):
    """The kind with one more part ahead of its parts."""
    return kind_with([part] + parts_in(kind), end_in(kind))


def without_first(kind):
    """The kind behind the first part, None if there is none."""
    parts = parts_in(kind)
    return kind_with(parts[1:], end_in(kind)) if parts else None


class Maker:
    """A maker of a wish over a book. A maker never changes."""

    def __init__(self, book, wish, form):
        check_wish(book, wish)
        spots = usable_spots(book, wish, form, "form")
        self._book = book
        self._wish = wish
        self._root = form
        self._value = Made(form_of(spots), values_of_names(book), [])
        self._spots = spots
        self._heads = names_in(form)
        self._written = maker_text(form)
        # What tells whether two makers are equal: unlike makers have unlike texts, and may be of any depth.
        self._facts = (book, wish, self._written)
        self._first = tuple(parts_in(wish)[:1])
        self._behind = without_first(wish)

    @property
    def form(self):
        return self._root

    def __len__(self):
        return len(self._spots)

    def __str__(self):
        return f"{self._written}"

    def __eq__(self, other):
        return isinstance(other, Maker) and self._facts == other._facts

    def __contains__(self, x):
        """Whether it is a name that is the head of a place."""
        return x in self._heads

    def __getitem__(self, at):
        """The head at a place."""
        part = part_found(self._root, at)
        check_usable(part is not None, "place")
        return part[0]

    def __iter__(self):
        raise TypeError("a maker is not iterated over")

    def __call__(self, other):
        """The Maker of the call with the other one."""
        if not isinstance(other, Maker) or other._book != self._book or self._first != (other._wish,):
            raise NotUsable("other", -1)
        return Maker(self._book, self._behind, plain_maker(self._value, self._behind, [other._value]))

    def __rshift__(self, other):
        """First this maker, then the other one, which takes what this one makes."""
        if not isinstance(other, Maker) or other._book != self._book or other._first != (self._behind,):
            raise NotUsable("other", -1)
        kind = with_first(self._first[0], other._behind)
        value = Meant(ONE_BEHIND_THE_OTHER, {"first": self._value, "then": other._value})
        return Maker(self._book, kind, plain_maker(value, kind))

    @classmethod
    def read(cls, book, wish, text):
        """The Maker whose form the text writes."""
        check_wish(book, wish)
        form = maker_read(text)
        try:
            spots_of(book, wish, form)
        except InvalidPaper:
            raise NotUsable("text", -1) from None
        return Maker(book, wish, form)

    @staticmethod
    def same(book, kind):
        """The Maker that hands its argument on."""
        check_usable(is_book(book), "book")
        check_usable(is_kind(kind), "kind")
        wish = with_first(kind, kind)
        return Maker(book, wish, plain_maker(Meant(HANDED_ON, {}), wish))
