"""Tables over all sets of some names.

Here a set of names is a number: its bit k tells whether name k is in it. A table is a number, too: its bit s tells
whether something is so with the set s. So what is asked of all sets at once takes a few operations on numbers.
"""


def whole_table(many):
    """The table in which everything is so, over so many names."""
    return (1 << (1 << many)) - 1


def name_table(many, k):
    """The table of the sets that have name k."""
    half = 1 << k
    table = ((1 << half) - 1) << half
    for j in range(k + 1, many):
        table = table | (table << (1 << j))
    return table


def is_so(table, s):
    return (table >> s) & 1 == 1


def names_of_set(names, s):
    """The set of names that the number stands for, as a tuple."""
    return tuple([name for k, name in enumerate(names) if is_so(s, k)])


def sets_in(table, names):
    """The ascending tuple of the sets in the table."""
    return tuple(sorted([names_of_set(names, s) for s in range(1 << len(names)) if is_so(table, s)]))


def least_in(table, many):
    """The table of the sets that have no subset with one name less in the table."""
    greater = 0
    for k in range(many):
        without = table & ~name_table(many, k)
        greater = greater | (without << (1 << k))
    return table & ~greater


def greatest_in(table, many):
    """The table of the sets that lie in no set with one name more in the table."""
    lesser = 0
    for k in range(many):
        lesser = lesser | ((table & name_table(many, k)) >> (1 << k))
    return table & ~lesser


def kind_tables(book, names):
    """For each kind of a name of the book the table of the sets of these names that have some name of this kind."""
    tables = {}
    for name, kind in book:
        own = name_table(len(names), names.index(name)) if name in names else 0
        tables[kind] = own | tables.get(kind, 0)
    return tables


def table_at(outlook, given, whole, stand, known):
    """The table of the sets with which something can be made at a stand, as far as it is known."""
    table = 0
    for kind, stands in outlook.steps[stand].items():
        enough = whole if kind in stand[0] else given[kind]
        for below in stands:
            enough = enough & known[below]
        table = table | enough
    return table


def enough_table(outlook, names):
    """The table of the sets of these names, among them all of use, with which the wish can be made."""
    whole = whole_table(len(names))
    given = kind_tables(outlook.book, names)
    known = {stand: 0 for stand in outlook.steps}
    stands = list(outlook.steps)[::-1]
    changed = True
    while changed:
        changed = False
        for stand in stands:
            table = table_at(outlook, given, whole, stand, known)
            if table != known[stand]:
                known[stand] = table
                changed = True
    return known[outlook.first]


def used_names(outlook):
    """The set of the names that are heads in some maker of the wish."""
    kinds = {kind: True for heads in outlook.made_steps().values() for kind in heads}
    # A name may be the head wherever a variable of its kind may.
    return tuple([name for name, kind in outlook.book if kind in kinds])


def with_others(book, names, sets):
    """The sets, with all names of the book besides that are none of these names; an ascending tuple."""
    others = [entry[0] for entry in book if entry[0] not in names]
    return tuple(sorted([tuple(sorted([*row, *others])) for row in sets]))
