"""Worlds drawn, changed, and judged by a second reading."""

from papers import is_plainly_a_number
from plainly import tree_of, trees_in
from values import is_plainly_a_name


def is_plainly_a_set(thing, fits):
    return isinstance(thing, tuple) and all(map(fits, thing)) and list(thing) == sorted(set(thing))


def is_plainly_a_world_row(thing, i, many):
    if not isinstance(thing, tuple) or len(thing) != 2 or not is_plainly_a_set(thing[0], is_plainly_a_name):
        return False
    return is_plainly_a_set(thing[1], is_plainly_a_number) and all(number < many for number in thing[1]) and i in thing[1]


def holds_plainly(world, row, tree):
    """By the words of the definition."""
    parts, end = tree
    return all(end in world[above][0] for above in world[row][1]
               if all(holds_plainly(world, above, part) for part in parts))


def frame_fault(thing):
    """The word and where for which a value is no world, None if it is one."""
    if not isinstance(thing, tuple) or not thing:
        return "shape", -1
    for i, row in enumerate(thing):
        if not is_plainly_a_world_row(row, i, len(thing)):
            return "row", i
    for i, (atoms, above) in enumerate(thing):
        if any(k not in above for j in above for k in thing[j][1]):
            return "above", i
        if any(atom not in thing[j][0] for j in above for atom in atoms):
            return "atoms", i
    return None


def world_fault(book, wish, thing):
    """The word and where for which a world is not accepted, None if it is."""
    fault = frame_fault(thing)
    if fault is not None:
        return fault
    for k, (_, tree) in enumerate(trees_in(book)):
        if not holds_plainly(thing, 0, tree):
            return "name", k
    return ("wish", -1) if holds_plainly(thing, 0, tree_of(wish)) else None


def random_world(rng, most, atoms=("p", "q", "r")):
    """Rows at random, made such that what is above a row is above what lies below it, too, and has its atoms."""
    many = rng.randint(1, most)
    above = [{i} | {j for j in range(many) if rng.random() < 1.2 / many} for i in range(many)]
    for _ in range(many):
        above = [set().union(*[above[j] for j in row]) for row in above]
    own = [{atom for atom in atoms if rng.random() < 0.35} for _ in range(many)]
    told = [set().union(*[own[j] for j in range(many) if i in above[j]]) for i in range(many)]
    return tuple((tuple(sorted(told[i])), tuple(sorted(above[i]))) for i in range(many))


def changed_world(rng, world, atoms):
    """A world with a change at a drawn place."""
    if not isinstance(world, tuple) or not world or not all(isinstance(row, tuple) and len(row) == 2 for row in world):
        return world
    i = rng.randrange(len(world))
    ahead, behind = world[:i], world[i + 1:]
    told, above = world[i]
    if not isinstance(told, tuple) or not isinstance(above, tuple):
        return world
    put = lambda row: (*ahead, row, *behind)
    other = lambda row, thing: tuple(sorted({*row} ^ {thing}, key=lambda one: (str(type(one)), one)))
    return rng.choice([
        *[lambda: put((other(told, rng.choice(atoms)), above))] * 4, *[lambda: put((told, other(above, rng.randrange(len(world)))))] * 4,
        lambda: put((told, other(above, len(world)))), lambda: (*ahead, *behind), lambda: (*world, (told, (len(world),))),
        lambda: (*world, (told, (i, len(world)))), lambda: world[::-1], lambda: (*behind, (told, above), *ahead),
        lambda: put((told[::-1], above)), lambda: put((told, above[::-1])), lambda: put((told + told[-1:], above)),
        lambda: put((told, above + above[-1:])), lambda: put((told, tuple(k for k in above if k != i))), lambda: put((("zz",), above)),
        lambda: put(rng.choice([None, [told, above], (told,), (told, above, ()), (list(told), above), (told, list(above)), (above, told),
                                ((*told, "Z"), above), ((*told, 1), above), (told, (*above, -1)), (told, (-1, *above)), (told, (False, *above)),
                                (told, (*above, "9")), (told, None), (None, above), (told, (*above, 10 ** 59)), (told, (True,))])),
        lambda: rng.choice([None, list(world), (), world[0], 0, "", True]),
    ])()
