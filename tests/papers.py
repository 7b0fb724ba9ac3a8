"""Papers judged by a second reading, and changed here and there."""

import itertools

from makerly import changed_parts, fault_of, part_of, places_in, with_part_at
from plainly import check_shut, heads_in, heads_of_stand, stand_behind, tree_atoms, tree_of, trees_in, trees_within
from values import is_plainly_a_kind, is_plainly_a_maker, is_plainly_a_name


def is_plainly_a_stand(thing):
    if not isinstance(thing, tuple) or len(thing) != 2 or not isinstance(thing[0], tuple):
        return False
    kinds, atom = thing
    return all(map(is_plainly_a_kind, kinds)) and list(kinds) == sorted(set(kinds)) and is_plainly_a_name(atom)


def is_plainly_a_number(thing):
    return isinstance(thing, int) and not isinstance(thing, bool) and thing >= 0


def is_plainly_a_row(thing):
    return (isinstance(thing, tuple) and len(thing) == 2 and is_plainly_a_stand(thing[0])
            and (thing[1] is None or is_plainly_a_number(thing[1])))


def stand_of(stand):
    return frozenset(tree_of(kind) for kind in stand[0]), stand[1]


def price_of(prices, maker):
    return sum(dict(prices).get(head, 0) for head in heads_in(maker))


def is_right(book, prices, table, stand, number):
    """Whether the row is right; book and stand have trees."""
    for head in heads_of_stand(book, stand):
        behind = [stand_behind(stand, part) for part in head[0]]
        if any(table.get(other, 0) is None for other in behind):
            continue
        if number is None or any(other not in table for other in behind):
            return False
        own = [0] if head in stand[0] else [dict(prices).get(name, 0) for name, kind in book if kind == head]
        if number > min(own) + sum(table[other] for other in behind):
            return False
    return True


def price_fault(book, wish, prices, thing):
    """The word and where for which a price paper is not accepted, None if it is."""
    if not isinstance(thing, tuple) or len(thing) != 2 or not is_plainly_a_maker(thing[0]):
        return "shape", -1
    if not isinstance(thing[1], tuple) or not all(map(is_plainly_a_row, thing[1])):
        return "shape", -1
    maker, rows = thing
    fault = fault_of(book, wish, maker)
    if fault is not None:
        return fault
    given = [tree for _, tree in trees_in(book)] + [tree_of(wish)]
    within = set().union(*map(trees_within, given))
    atoms = {atom for tree in given for atom in tree_atoms(tree)}
    for k, (stand, _) in enumerate(rows):
        trees, atom = stand_of(stand)
        if not trees <= within or atom not in atoms or (k and not rows[k - 1][0] < stand):
            return "stand", k
    table = {stand_of(stand): number for stand, number in rows}
    first = (frozenset(tree_of(wish)[0]), tree_of(wish)[1])
    if table.get(first) is None:
        return "first", -1
    for k, (stand, number) in enumerate(rows):
        if not is_right(trees_in(book), prices, table, stand_of(stand), number):
            return "step", k
    return None if price_of(prices, maker) == table[first] else ("price", -1)


def changed_rows(rng, rows, kinds, atoms):
    """A number table with a change at a drawn place."""
    k = rng.randrange(len(rows)) if rows else 0
    ahead, behind = rows[:k], rows[k + 1:]
    stand, number = rows[k] if rows else (((), "p"), 0)
    given, atom = stand
    other = tuple(sorted({*given, rng.choice(kinds)}))
    return rng.choice([
        lambda: (*ahead, (stand, None if number is not None else rng.randrange(3)), *behind),
        lambda: (*ahead, (stand, (number or 0) + 1), *behind),
        lambda: (*ahead, (stand, max((number or 0) - 1, 0)), *behind),
        lambda: (*ahead, *behind),
        lambda: (*ahead, (stand, number), (stand, number), *behind),
        lambda: rows[::-1],
        lambda: tuple(sorted({**dict(rows), (other, atom): number}.items(), key=lambda row: row[0])),
        lambda: tuple(sorted({**dict(rows), (given, rng.choice(atoms)): number}.items(), key=lambda row: row[0])),
        lambda: (*ahead, ((other, atom), number), *behind),
        lambda: (*ahead, ((given[::-1], atom), number), *behind),
        lambda: (*ahead, ((given, "zz"), number), *behind),
        lambda: (*ahead, (stand, rng.choice([True, -1, "1", (), 10 ** 59])), *behind),
        lambda: (*ahead, rng.choice([stand, [stand, number], (stand,), (stand, number, 0), (list(stand), number), None]), *behind),
        lambda: list(rows),
        lambda: ahead,
        lambda: tuple((one, None) for one, _ in rows),
        lambda: tuple((one, 0) for one, _ in rows),
    ])()


def changed_maker(rng, maker, heads):
    """The maker with a change at a drawn place."""
    place = rng.choice(places_in(maker))
    return with_part_at(maker, place, rng.choice(changed_parts(part_of(maker, place), heads)))


def changed_paper(rng, paper, makers, kinds, atoms, heads):
    """A price paper with a change at a drawn place, in its table mostly."""
    maker, rows = paper
    return rng.choice([
        lambda: (changed_maker(rng, maker, heads), rows),
        lambda: (rng.choice(makers), rows),
        lambda: rng.choice([(maker,), (maker, rows, ()), [maker, rows], (rows, maker), (maker, dict(rows)), None, rows]),
        *[lambda: (maker, changed_rows(rng, rows, kinds, atoms))] * 6,
    ])()


# Handouts.

def all_sets(book):
    """All sets of names."""
    names = [name for name, _ in book]
    return [row for many in range(len(names) + 1) for row in itertools.combinations(names, many)]


def part_of_book(book, names):
    return tuple(entry for entry in book if entry[0] in names)


def check_shut_table(book, wish, table):
    tree = tree_of(wish)
    assert type(table) is tuple
    assert (frozenset(tree[0]), tree[1]) in check_shut(trees_in(book), table)


def check_handout_paper(book, let, barred, paper):
    """Fails if it is not right; by the words of the point on handouts."""
    poor, rich, good = paper
    assert type(paper) is tuple and all(type(row) is tuple for row in paper)
    for element in poor + rich + good:
        assert type(element) is tuple and len(element) == 3 and element[0] in all_sets(book)
    for names, k, table in poor:
        check_shut_table(part_of_book(book, names), let[k], table)
    for names, k, maker in rich:
        assert fault_of(part_of_book(book, names), barred[k], maker) is None
    for names, makers, tables in good:
        own = part_of_book(book, names)
        assert type(makers) is tuple and type(tables) is tuple and len(makers) == len(let) and len(tables) == len(barred)
        assert all(fault_of(own, wish, maker) is None for wish, maker in zip(let, makers))
        for wish, table in zip(barred, tables):
            check_shut_table(own, wish, table)
    sets = [set(names) for names, _, _ in good]
    for names in map(set, all_sets(book)):
        assert (any(names <= set(row[0]) for row in poor) or any(names >= set(row[0]) for row in rich)
                or any(names >= one for one in sets) and any(names <= one for one in sets)), names
