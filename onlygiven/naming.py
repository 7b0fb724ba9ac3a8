"""Which names a wish needs, and which sets of names are enough for it."""

from onlygiven.errors import NotMade
from onlygiven.nametables import enough_table, greatest_in, least_in, name_table
from onlygiven.nametables import sets_in, used_names, whole_table, with_others
from onlygiven.outlooks import outlook_for


def needed_names(book, wish):
    """The set of the names that are heads in every maker of the wish."""
    outlook = outlook_for(book, wish)
    if not outlook.has_maker():
        raise NotMade(wish)
    names = used_names(outlook)
    table = enough_table(outlook, names)
    return tuple([name for k, name in enumerate(names) if (table & ~name_table(len(names), k)) == 0])


def names_of_use(book, wish):
    """The set of the names that are heads in some maker of the wish."""
    return used_names(outlook_for(book, wish))


def least_names(book, wish):
    """The sets of names that are enough for the wish, and include no other one that is."""
    outlook = outlook_for(book, wish)
    names = used_names(outlook)
    return sets_in(least_in(enough_table(outlook, names), len(names)), names)


def greatest_without(book, wish):
    """The sets of names that are not enough for the wish, and lie in no other one that is not."""
    outlook = outlook_for(book, wish)
    names = used_names(outlook)
    table = whole_table(len(names)) & ~enough_table(outlook, names)
    # A name that is of no use is in all of them.
    return with_others(book, names, sets_in(greatest_in(table, len(names)), names))
