"""Tables of numbers for stands, as papers have them.

A number table is a tuple of pairs of a stand and a number or None, stands ascending.
"""

from onlygiven.errors import InvalidPaper
from onlygiven.kinds import is_number, is_row, is_stand
from onlygiven.kindsplits import kinds_inside, names_in_kind
from onlygiven.stands import heads_of_stand, stands_behind


def is_table_row(thing):
    """Whether any value is a pair of a stand and a number or None."""
    return is_row(thing, 2) and is_stand(thing[0]) and (thing[1] is None or is_number(thing[1]))


def are_table_rows(thing):
    return isinstance(thing, tuple) and all([is_table_row(row) for row in thing])


def check_table_stands(book, wish, rows):
    """The stands of a table have kinds and atoms of the book and the wish alone, and ascend."""
    given = [entry[1] for entry in book] + [wish]
    kinds = kinds_inside(given)
    atoms = [atom for kind in given for atom in names_in_kind(kind)]
    for k, (stand, _) in enumerate(rows):
        known = stand[1] in atoms and all([kind in kinds for kind in stand[0]])
        if not known or (k > 0 and stand <= rows[k - 1][0]):
            raise InvalidPaper("stand", k)


def head_sums(book, numbers, stand, added):
    """For each head what it adds and the numbers of its parts together, None if some part leads to no row.

    Heads of which some part leads to a row with None are left out. added tells what a head at a stand adds.
    """
    sums = []
    for head in heads_of_stand(book, stand):
        below = stands_behind(stand, head)
        if any([other in numbers and numbers[other] is None for other in below]):
            continue
        known = all([other in numbers for other in below])
        sums.append(added(stand, head) + sum([numbers[other] for other in below]) if known else None)
    return sums


def check_table_steps(book, numbers, added, fits):
    """Each row of the table is right; fits tells whether a number goes with what a head and its parts add up to."""
    for k, (stand, number) in enumerate(numbers.items()):
        sums = head_sums(book, numbers, stand, added)
        if number is None and len(sums) > 0:
            raise InvalidPaper("step", k)
        if any([total is None or not fits(number, total) for total in sums]):
            raise InvalidPaper("step", k)
