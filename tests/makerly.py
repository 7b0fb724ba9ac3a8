"""Makers changed here and there, judged by a second reading, and filled in another way than in the package."""

import random

from plainly import makers_of_size, random_book, random_kind, tree_instance, tree_of, trees_in

CHURCH = "(p -> p) -> p -> p"


def fault_of(book, wish, thing):
    """The word and the place for which a maker is refused, None if it is one."""
    def fault(place, hand, tree, part):
        hand = hand + tree[0]
        if type(part) is not tuple or len(part) != 2 or type(part[1]) is not tuple:
            return "shape", place
        head, makers = part
        if type(head) is str and 0 < len(head) < 9 and head.isascii() and head.isalpha() and head.islower():
            kind = dict(trees_in(book)).get(head)
        elif type(head) is int and head >= 0:
            kind = hand[head] if head < len(hand) else None
        else:
            return "shape", place
        if kind is None or kind[1] != tree[1]:
            return "head", place
        if len(kind[0]) != len(makers):
            return "makers", place
        faults = [fault((*place, k), hand, inner, makers[k]) for k, inner in enumerate(kind[0])]
        return next((one for one in faults if one is not None), None)

    return fault((), (), tree_of(wish), thing)


def places_in(maker):
    """All places, ascending."""
    return [()] + [(k, *place) for k, inner in enumerate(maker[1]) for place in places_in(inner)]


def part_of(maker, place):
    for k in place:
        maker = maker[1][k]
    return maker


def with_part_at(maker, place, part):
    """The maker in which this stands at the place."""
    if not place:
        return part
    k, *rest = place
    head, makers = maker
    return head, (*makers[:k], with_part_at(makers[k], rest, part), *makers[k + 1:])


ODD_PARTS = [None, True, 0, "a", (), [], ("a",), (0,), ("a", ()), (0, ()), ("a", (), ()), ["a", ()], ("a", []), (True, ()),
             (-1, ()), ("", ()), ("A", ()), (None, ()), ((), ()), ("zz", ()), (99, ()), (10 ** 60 - 1, ()), ("abcdefghi", ())]


def changed_parts(part, heads):
    """What stands at a place, with another head, with makers left out, doubled and exchanged, and odd things."""
    head, makers = part
    found = [(other, makers) for other in heads] + ODD_PARTS + [[head, makers], (head, list(makers)), (head, makers, head)]
    for k, maker in enumerate(makers):
        found += [(head, makers[:k] + makers[k + 1:]), (head, makers[:k] + (maker,) + makers[k:]), maker]
        found.append((head, makers[:k] + makers[k:k + 2][::-1] + makers[k + 2:]))
    return found + [(head, (*makers, ("a", ()))), (head, ())]


def changed_makers(maker, heads):
    """The maker with one change, at each of its places."""
    return [with_part_at(maker, place, part) for place in places_in(maker)
            for part in changed_parts(part_of(maker, place), heads)]


# Plain forms by functions: a value of an atom is a function from the number of variables at hand to a maker, a value of
# another kind is a function of the values of its parts.

def shown_as(tree, head):
    """The value of a head of this kind that stands for itself."""
    if not tree[0]:
        return lambda depth: (head, ())
    return lambda *values: lambda depth: (
        head, tuple(written(part, value, depth) for part, value in zip(tree[0], values)))


def written(tree, value, depth=0):
    """The maker of this kind that the value is."""
    opened = [shown_as(part, depth + k) for k, part in enumerate(tree[0])]
    return (value(*opened) if opened else value)(depth + len(opened))


def value_of(names, tree, maker, hand=(), more=None):
    """The value of a maker of this kind; names and hand have pairs of a kind and a value.

    more has the number of parts that the kind has besides where an atom was replaced by a kind, for this atom.
    """
    def called(*values):
        own = (*hand, *zip(tree[0], values))
        kind, value = names[maker[0]] if isinstance(maker[0], str) else own[maker[0]]
        behind = [value_of(names, part, inner, own, more) for part, inner in zip(kind[0], maker[1])]
        behind += values[len(tree[0]):]
        return value(*behind) if behind else value

    return called if len(tree[0]) + (more or {}).get(tree[1], 0) else called()


def filled(low, high, makers, wish, maker):
    """The plain form over high of a maker over low."""
    own = {name: (tree, shown_as(tree, name)) for name, tree in trees_in(high)}
    names = {name: (tree, value_of(own, tree, inner)) for (name, tree), inner in zip(trees_in(low), makers)}
    tree = tree_of(wish)
    return written(tree, value_of(names, tree, maker))


def instance_by_values(book, wish, maker, atom, other):
    """The plain form of a maker with the instances of all kinds."""
    other = tree_of(other)
    names = {name: (tree, shown_as(tree_instance(tree, atom, other), name)) for name, tree in trees_in(book)}
    tree = tree_of(wish)
    return written(tree_instance(tree, atom, other), value_of(names, tree, maker, (), {atom: len(other[0])}))


# Fillings at random.

def numeral(number):
    maker = (1, ())
    for _ in range(number):
        maker = (0, (maker,))
    return maker


def random_maker(rng, book, wish, most=5):
    """A maker of at most this size, None if there is none."""
    makers = [maker for size in range(1, most + 1) for maker in makers_of_size(book, wish, size)[:40]]
    return rng.choice(makers) if makers else None


def random_filling(rng, low, high, most=3):
    """The makers of a filling, None if there is none with makers that small.

    What is filled several times over doubles at every place: so makers have to be small.
    """
    makers = tuple(random_maker(rng, high, kind, most) for _, kind in low)
    return None if None in makers else makers


def cases(seed, count, atoms=("p", "q"), order=2):
    """Books low and high with the makers of a filling, a wish and a maker over low."""
    rng, found = random.Random(seed), []
    while len(found) < count:
        low, high = random_book(rng, 3, 4, atoms, order), random_book(rng, 4, 4, atoms, order)
        wish = random_kind(rng, 4, atoms, order)
        makers, maker = random_filling(rng, low, high, 4), random_maker(rng, low, wish)
        if makers is not None and maker is not None:
            found.append((low, high, makers, wish, maker))
    return found
