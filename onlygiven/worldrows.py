"""The rows of worlds, and what holds at them.

A set of rows is a number here: its bit i tells whether row i is in it.
"""

from onlygiven.errors import InvalidPaper
from onlygiven.kinds import is_ascending, is_name, is_number, is_row
from onlygiven.kindsplits import end_in, kinds_inside, parts_in


def is_name_set(thing):
    """Whether it is an ascending tuple of names."""
    return isinstance(thing, tuple) and all([is_name(name) for name in thing]) and is_ascending(thing)


def is_number_set(thing):
    """Whether it is an ascending tuple of numbers."""
    return isinstance(thing, tuple) and all([is_number(number) for number in thing]) and is_ascending(thing)


def is_world_row(thing, i, many):
    """Whether any value is row i of a world of so many rows, looked at for itself alone."""
    if not is_row(thing, 2) or not is_name_set(thing[0]) or not is_number_set(thing[1]):
        return False
    return i in thing[1] and thing[1][-1] < many


def rows_as_number(numbers):
    rows = 0
    for number in numbers:
        rows = rows | (1 << number)
    return rows


def rows_above(world):
    """For each row those above it."""
    return [rows_as_number(row[1]) for row in world]


def check_above(world, above, i):
    """What is above row i: all that is above such a row is, too, and has the atoms of row i."""
    atoms, numbers = world[i]
    if any([above[j] & ~above[i] != 0 for j in numbers]):
        raise InvalidPaper("above", i)
    if any([atom not in world[j][0] for j in numbers for atom in atoms]):
        raise InvalidPaper("atoms", i)


def check_world(thing):
    """Any value is a world."""
    if not isinstance(thing, tuple) or not thing:
        raise InvalidPaper("shape", -1)
    for i, row in enumerate(thing):
        if not is_world_row(row, i, len(thing)):
            raise InvalidPaper("row", i)
    above = rows_above(thing)
    for i in range(len(thing)):
        check_above(thing, above, i)


def rows_with(world, atom):
    """The rows that have the atom."""
    return rows_as_number([i for i, row in enumerate(world) if atom in row[0]])


def rows_holding(world, kind):
    """The rows at which the kind holds."""
    above = rows_above(world)
    holding = {}
    # What is within a kind is shorter than the kind.
    for inner in sorted(kinds_inside([kind]), key=len):
        wrong = ~rows_with(world, end_in(inner))
        for part in parts_in(inner):
            wrong = wrong & holding[part]
        holding[inner] = rows_as_number([i for i in range(len(world)) if above[i] & wrong == 0])
    return holding[kind]


def holds(world, row, kind):
    """Whether the kind holds at a row of what is known to be a world."""
    return (rows_holding(world, kind) >> row) & 1 == 1
