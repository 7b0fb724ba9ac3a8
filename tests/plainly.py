"""Kinds, books and makers worked out in another way than in the package: plainly, and slowly.

Here a kind is a tree, a pair of the tuple of its parts, which are trees, and its end. Makers are found by search through
all of them, as the definition of makers states it.
"""

import functools
import random
import re

ATOMS = ("p", "q", "r", "s")


def tree_read(text):
    """The tree of the kind with which the text begins, and the rest of the text."""
    parts = []
    while True:
        if text.startswith("("):
            part, text = tree_read(text[1:])
            assert text.startswith(")")
            text = text[1:]
        else:
            name = re.match("[a-z]{1,8}", text)[0]
            part, text = ((), name), text[len(name):]
        if not text.startswith(" -> "):
            return (tuple(parts), part[1]), text
        parts.append(part)
        text = text[4:]


@functools.lru_cache(maxsize=None)
def tree_of(kind):
    tree, rest = tree_read(kind)
    assert rest == ""
    return tree


def kind_of_tree(tree):
    parts, end = tree
    rows = [kind_of_tree(part) for part in parts]
    return " -> ".join([f"({row})" if part[0] else row for part, row in zip(parts, rows)] + [end])


def tree_atoms(tree):
    """The atoms from left to right, with repetitions."""
    return [atom for part in tree[0] for atom in tree_atoms(part)] + [tree[1]]


def tree_order(tree):
    return 1 + max(tree_order(part) for part in tree[0]) if tree[0] else 0


def trees_within(tree):
    return {tree}.union(*[trees_within(part) for part in tree[0]])


def tree_instance(tree, atom, other):
    parts = tuple(tree_instance(part, atom, other) for part in tree[0])
    return (parts + other[0], other[1]) if tree[1] == atom else (parts, tree[1])


def random_tree(rng, size, atoms=ATOMS, order=3):
    """A tree with so many atoms, if its order may be so great."""
    parts, left = [], size - 1 if order else 0
    while left:
        part = random_tree(rng, rng.randint(1, left) if order > 1 else 1, atoms, order - 1)
        parts.append(part)
        left -= len(tree_atoms(part))
    return (tuple(parts), rng.choice(atoms))


def random_kind(rng, most, atoms=ATOMS, order=3):
    return kind_of_tree(random_tree(rng, rng.randint(1, most), atoms, order))


def random_name(rng):
    return "".join(rng.choice("abyz") for _ in range(rng.choice((1, 1, 2, 3, 8))))


def random_book(rng, most_names, most_atoms, atoms=ATOMS, order=3):
    # A set has no order of its own: without sorting, the kinds would come to other names in each run.
    names = sorted({random_name(rng) for _ in range(rng.randint(0, most_names))})
    return tuple((name, random_kind(rng, most_atoms, atoms, order)) for name in names)


def kinds_of_all_sorts(seed, count, most=8):
    """Kinds at random, each atom and each order among them."""
    rng = random.Random(seed)
    return [random_kind(rng, most, rng.choice((ATOMS, ("p", "q"), ("p", "pp", "abcdefgh"))), rng.randint(0, 5))
            for _ in range(count)]


def wishes_of_all_sorts(seed, count, names=4, atoms=("p", "q", "r"), size=4, order=2):
    """Books at random, each with a wish."""
    rng = random.Random(seed)
    return [(random_book(rng, names, size, atoms, order), random_kind(rng, size + 1, atoms, order + 1))
            for _ in range(count)]


# Makers.

def trees_in(book):
    return tuple((name, tree_of(kind)) for name, kind in book)


@functools.lru_cache(maxsize=None)
def makers_at(book, hand, tree, size):
    """All makers of a size, of the kind that the tree is, where variables of the hand's kinds are at hand."""
    hand = hand + tree[0]
    return [(head, makers) for head, (parts, end) in [*book, *enumerate(hand)] if end == tree[1]
            for makers in rows_at(book, hand, parts, size - 1)]


@functools.lru_cache(maxsize=None)
def rows_at(book, hand, trees, size):
    """All tuples of makers of these kinds that have this size together."""
    if not trees:
        return [()] if size == 0 else []
    return [(maker, *rest) for first in range(1, size - len(trees) + 2)
            for maker in makers_at(book, hand, trees[0], first)
            for rest in rows_at(book, hand, trees[1:], size - first)]


def makers_of_size(book, wish, size):
    return makers_at(trees_in(book), (), tree_of(wish), size)


def size_of_maker(maker):
    return 1 + sum(size_of_maker(part) for part in maker[1])


def order_key(maker):
    """Python sorts these as the makers are to be ordered."""
    head, makers = maker
    return size_of_maker(maker), (isinstance(head, int), head), tuple(order_key(part) for part in makers)


def heads_in(maker):
    """The heads, places ascending."""
    return [maker[0]] + [head for part in maker[1] for head in heads_in(part)]


def can_be_made(book, hand, tree, above=frozenset()):
    """Whether there is a maker. What is wanted once more, with nothing new at hand, is not needed to be tried."""
    hand = hand | frozenset(tree[0])
    stand = (hand, tree[1])
    if stand in above:
        return False
    heads = [kind for _, kind in book] + list(hand)
    return any(all(can_be_made(book, hand, part, above | {stand}) for part in parts)
               for parts, end in heads if end == tree[1])


def has_maker(book, wish):
    return can_be_made(trees_in(book), frozenset(), tree_of(wish))


def goes_on(book, hand, tree, above=()):
    """Whether an atom comes below itself in some maker of the kind, which can be made."""
    if tree[1] in above:
        return True
    hand = hand | frozenset(tree[0])
    heads = [kind for _, kind in book] + list(hand)
    return any(goes_on(book, hand, part, (*above, tree[1]))
               for parts, end in heads if end == tree[1] and all(can_be_made(book, hand, part) for part in parts)
               for part in parts)


def has_endlessly_many(book, wish):
    return has_maker(book, wish) and goes_on(trees_in(book), frozenset(), tree_of(wish))


def number_at(book, hand, tree):
    """How many makers there are, not being endlessly many."""
    hand = hand + tree[0]
    number = 0
    for parts, end in [kind for _, kind in book] + list(hand):
        if end == tree[1] and all(can_be_made(book, frozenset(hand), part) for part in parts):
            ways = 1
            for part in parts:
                ways *= number_at(book, hand, part)
            number += ways
    return number


def number_of_makers(book, wish):
    if has_endlessly_many(book, wish):
        return None
    return number_at(trees_in(book), (), tree_of(wish))


def wanted_places(book, wish, maker):
    """For each place what is wanted there, and the kinds at hand; fails if it is no maker of the wish."""
    book, found = dict(trees_in(book)), {}

    def walk(place, hand, tree, part):
        head, makers = part
        hand = hand + tree[0]
        assert type(part) is tuple and len(part) == 2 and type(makers) is tuple and type(head) in (str, int)
        kind = book[head] if isinstance(head, str) else dict(enumerate(hand))[head]
        assert kind[1] == tree[1] and len(kind[0]) == len(makers)
        found[place] = (tree[1], hand)
        for k, below in enumerate(makers):
            walk((*place, k), hand, kind[0][k], below)

    walk((), (), tree_of(wish), maker)
    return found


# Papers that tell how many.

def stand_behind(stand, tree):
    return stand[0] | frozenset(tree[0]), tree[1]


def heads_of_stand(book, stand):
    return {kind for kind in [kind for _, kind in book] + list(stand[0]) if kind[1] == stand[1]}


def check_shut(book, shut):
    stands = [(frozenset(tree_of(kind) for kind in kinds), atom) for kinds, atom in shut]
    assert shut == tuple(sorted(set(shut))) and all(kinds == tuple(sorted(set(kinds))) for kinds, _ in shut)
    for stand in stands:
        for head in heads_of_stand(book, stand):
            assert any(stand_behind(stand, part) in stands for part in head[0])
    return stands


def check_row(book, stands, above, row):
    (hand, atom), number = row
    assert hand == tuple(sorted(hand))
    hand = [tree_of(kind) for kind in hand]
    stand, total = (frozenset(hand), atom), 0
    for head in heads_of_stand(book, stand):
        if any(stand_behind(stand, part) in stands for part in head[0]):
            continue
        ways = [kind for _, kind in book].count(head) + hand.count(head)
        for part in head[0]:
            ways *= above[tuple(sorted(kind_of_tree(kind) for kind in [*hand, *part[0]])), part[1]]
        total += ways
    assert total == number and type(number) is int


def check_count_paper(book, wish, paper):
    """The number that the paper shows, None for endlessly many; fails if it is not right."""
    assert type(paper) is tuple and len(paper) == 4
    if paper[0] == "endless":
        _, maker, place, deeper = paper
        places = wanted_places(book, wish, maker)
        assert len(deeper) > len(place) and deeper[:len(place)] == place
        assert places[place][0] == places[deeper][0]
        return None
    word, number, rows, shut = paper
    assert word == "just" and type(number) is int and type(rows) is tuple and type(shut) is tuple
    book, tree, above = trees_in(book), tree_of(wish), {}
    stands = check_shut(book, shut)
    for row in rows:
        check_row(book, stands, above, row)
        above[row[0]] = row[1]
    if number == 0 and (frozenset(tree[0]), tree[1]) in stands:
        return 0
    assert rows[-1] == ((tuple(sorted(kind_of_tree(part) for part in tree[0])), tree[1]), number)
    return number
