"""Kinds as objects."""

from onlygiven.errors import NotUsable
from onlygiven.kinds import is_kind, is_name, is_number
from onlygiven.kindsplits import end_in, kind_with, kinds_inside, parts_in
from onlygiven.usable import check_usable


class Kind:
    """A kind that never changes."""

    def __init__(self, spelling):
        check_usable(is_kind(spelling), "spelling")
        self._written = spelling
        self._row = tuple(parts_in(spelling))

    @property
    def spelling(self):
        return self._written

    @property
    def parts(self):
        """The tuple of the parts, as strings."""
        return self._row

    @property
    def end(self):
        return end_in(self._written)

    def __getitem__(self, at):
        """The Kind of the part with this index."""
        check_usable(is_number(at) and at < len(self._row), "k")
        return Kind(self._row[at])

    def __len__(self):
        return len(self._row)

    def __iter__(self):
        return iter(self._row)

    def __str__(self):
        return f"{self._written}"

    def __contains__(self, x):
        """Whether it is one of the kinds within, or the Kind of one of them."""
        written = x._written if isinstance(x, Kind) else x
        return written in kinds_inside([self._written])

    def __eq__(self, other):
        return isinstance(other, Kind) and self._written == other._written

    def __rshift__(self, other):
        """The Kind with this kind ahead of the parts of the other one, and its end."""
        check_usable(isinstance(other, Kind), "other")
        return Kind(kind_with([self._written, *other._row], end_in(other._written)))

    def __call__(self, other):
        """The Kind without the first part, which is the kind of the other one."""
        if not isinstance(other, Kind) or self._row[:1] != (other._written,):
            raise NotUsable("other", -1)
        return Kind(kind_with(list(self._row[1:]), end_in(self._written)))

    @classmethod
    def atom(cls, name):
        """The Kind of an atom."""
        check_usable(is_name(name), "name")
        return Kind(name)

    @staticmethod
    def spelled(thing):
        """The spelling of a Kind, or a kind itself."""
        if isinstance(thing, Kind):
            return thing.spelling
        check_usable(is_kind(thing), "thing")
        return thing
