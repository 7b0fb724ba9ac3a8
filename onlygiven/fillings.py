"""Books filled into books."""

from onlygiven.bookchanges import has_name
from onlygiven.errors import NotUsable
from onlygiven.kinds import is_book, is_kind, is_row, names_of
from onlygiven.makertexts import maker_text
from onlygiven.makerwalks import usable_spots
from onlygiven.normals import Made, form_of, plain_maker, values_of_names
from onlygiven.usable import check_usable


def forms_for(low, high, makers):
    """For each name of low the form of its maker."""
    check_usable(is_row(makers, len(low)), "makers")
    forms = [form_of(usable_spots(high, entry[1], maker, "makers")) for entry, maker in zip(low, makers)]
    return dict(zip(names_of(low), forms))


def values_of_forms(forms, names):
    """For each name of the forms what its form makes; names has the values of the names in them."""
    return {name: Made(forms[name], names, []) for name in forms}


class Filling:
    """A maker over the book high for each name of the book low. A filling never changes."""

    def __init__(self, low, high, makers):
        check_usable(is_book(low), "low")
        check_usable(is_book(high), "high")
        self._forms = forms_for(low, high, makers)
        self._values = values_of_forms(self._forms, values_of_names(high))
        self._low = low
        self._high = high
        self._rows = makers
        # What tells whether two fillings are equal: unlike makers have unlike texts, and may be of any depth.
        self._facts = (low, high, [maker_text(maker) for maker in makers])

    def __call__(self, wish, maker):
        """The plain form, over high, of what a maker over low writes out with the maker of each name."""
        check_usable(is_kind(wish), "wish")
        spots = usable_spots(self._low, wish, maker, "maker")
        return plain_maker(Made(form_of(spots), self._values, []), wish)

    def __rshift__(self, other):
        """First this filling, then the other one."""
        if not isinstance(other, Filling) or other._low != self._high:
            raise NotUsable("other", -1)
        values = values_of_forms(self._forms, other._values)
        return Filling(self._low, other._high, tuple([plain_maker(values[name], kind) for name, kind in self._low]))

    def __getitem__(self, at):
        """The maker of a name of low."""
        check_usable(has_name(self._low, at), "name")
        return dict(zip(names_of(self._low), self._rows))[at]

    def __len__(self):
        return len(self._rows)

    def __iter__(self):
        return iter(self._rows)

    def __eq__(self, other):
        return isinstance(other, Filling) and self._facts == other._facts

    @staticmethod
    def plain(book):
        """The filling of the book over itself that changes no maker."""
        check_usable(is_book(book), "book")
        values = values_of_names(book)
        # What a name makes of its kind is the call of the name with its variables.
        return Filling(book, book, tuple([plain_maker(values[name], kind) for name, kind in book]))
