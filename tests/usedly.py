"""Use papers judged by a second reading, and changed here and there."""

from judged import changed_repeat, endless_fault, first_of
from makerly import fault_of, part_of, places_in
from papers import changed_maker, changed_rows, is_plainly_a_row, stand_of
from plainly import heads_in, heads_of_stand, stand_behind, tree_atoms, tree_of, trees_in, trees_within
from values import is_plainly_a_maker


def is_right(book, name, table, stand, number):
    """Whether the row is right; the stand has trees."""
    for head in heads_of_stand(trees_in(book), stand):
        behind = [stand_behind(stand, part) for part in head[0]]
        if any(table.get(other, 0) is None for other in behind):
            continue
        if number is None or any(other not in table for other in behind):
            return False
        if number < (dict(trees_in(book))[name] == head) + sum(table[other] for other in behind):
            return False
    return True


def rows_fault(book, wish, name, maker, rows):
    given = [tree for _, tree in trees_in(book)] + [tree_of(wish)]
    within = set().union(*map(trees_within, given))
    atoms = {atom for tree in given for atom in tree_atoms(tree)}
    for k, (stand, _) in enumerate(rows):
        trees, atom = stand_of(stand)
        if not trees <= within or atom not in atoms or (k and not rows[k - 1][0] < stand):
            return "stand", k
    table = {stand_of(stand): number for stand, number in rows}
    if table.get(first_of(wish)) is None:
        return "first", -1
    for k, (stand, number) in enumerate(rows):
        if not is_right(book, name, table, stand_of(stand), number):
            return "step", k
    return None if heads_in(maker).count(name) == table[first_of(wish)] else ("most", -1)


def use_fault(book, wish, name, thing):
    """The word and where for which a use paper is not accepted, None if it is."""
    if not isinstance(thing, tuple) or not thing or not isinstance(thing[0], str):
        return "shape", -1
    if thing[0] == "most" and len(thing) == 3 and is_plainly_a_maker(thing[1]):
        _, maker, rows = thing
        if not isinstance(rows, tuple) or not all(map(is_plainly_a_row, rows)):
            return "shape", -1
        return fault_of(book, wish, maker) or rows_fault(book, wish, name, maker, rows)
    if thing[0] != "endless" or len(thing) != 4:
        return "shape", -1
    _, maker, place, deeper = thing
    fault = endless_fault(book, wish, maker, place, deeper)
    if fault is not None:
        return fault
    uses = [at for at in places_in(maker) if part_of(maker, at)[0] == name]
    return None if any(at[:len(place)] == place and at[:len(deeper)] != deeper for at in uses) else ("use", -1)


def changed_use(rng, paper, makers, kinds, atoms, heads):
    """A use paper with a change at a drawn place."""
    if not isinstance(paper, tuple) or len(paper) not in (3, 4) or not is_plainly_a_maker(paper[1]):
        return paper
    word, maker, *rest = paper
    if rng.random() < 0.1:
        return rng.choice([None, list(paper), paper[:2], (*paper, ()), (word.upper(), *paper[1:]), ("most", maker, ()), ("most", maker, *rest),
                           ("endless", maker, *rest), ("endless", maker, (), (0,)), paper[1:], (word, None, *rest), (word, *rest, maker)])
    if word == "endless" and len(paper) == 4:
        return rng.choice([lambda: changed_repeat(rng, paper, heads), lambda: changed_repeat(rng, paper, heads),
                           lambda: (word, rng.choice(makers), *rest)])()
    if len(paper) != 3 or not isinstance(rest[0], tuple) or not all(map(is_plainly_a_row, rest[0])):
        return paper
    return rng.choice([
        lambda: (word, changed_maker(rng, maker, heads), rest[0]), lambda: (word, rng.choice(makers), rest[0]),
        *[lambda: (word, maker, changed_rows(rng, rest[0], kinds, atoms))] * 6,
    ])()
