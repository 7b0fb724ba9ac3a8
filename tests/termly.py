"""Terms judged by a second reading, written in several ways, changed, and made plain in another way than in the package."""

import random

from plainly import kind_of_tree, random_book, random_kind, tree_of, trees_in
from values import is_plainly_a_kind, is_plainly_a_name


# Which values are terms, and right ones.

def is_plainly_a_call(thing):
    return (isinstance(thing, tuple) and len(thing) == 3 and isinstance(thing[0], str) and thing[0] == "call"
            and isinstance(thing[2], tuple) and len(thing[2]) > 0)


def is_plainly_a_variable(thing):
    return isinstance(thing, tuple) and len(thing) == 2 and is_plainly_a_name(thing[0]) and is_plainly_a_kind(thing[1])


def is_plainly_a_fun(thing):
    if not isinstance(thing, tuple) or len(thing) != 3 or thing[0] != "fun" or not isinstance(thing[1], tuple):
        return False
    variables = thing[1]
    return (len(variables) > 0 and all(map(is_plainly_a_variable, variables))
            and len({name for name, _ in variables}) == len(variables))


def inner_of(term):
    """What stands where terms stand in it."""
    if is_plainly_a_call(term):
        return (term[1], *term[2])
    return (term[2],) if is_plainly_a_fun(term) else ()


def all_inner(term, place=(), around=()):
    """All terms, ascending by place: place, term, and the funs around it, the outermost first."""
    found = [(place, term, around)]
    for k, inner in enumerate(inner_of(term)):
        found += all_inner(inner, (*place, k), (*around, term) if is_plainly_a_fun(term) else around)
    return found


class Fault(Exception):
    def __init__(self, word, place):
        super().__init__(word, place)
        self.told = word, place


def kinds_around(book, around):
    """What each name stands for, as trees, inside these funs."""
    known = dict(trees_in(book))
    for fun in around:
        known.update({name: tree_of(kind) for name, kind in fun[1]})
    return known


def tree_of_term(known, term, place=()):
    """The kind of a term, as a tree, where names have these kinds; Fault in its calls, the inner ones first."""
    if isinstance(term, str):
        return known[term]
    if term[0] == "fun":
        own = {name: tree_of(kind) for name, kind in term[1]}
        parts, end = tree_of_term({**known, **own}, term[2], (*place, 0))
        return (*own.values(), *parts), end
    (parts, end), *given = [tree_of_term(known, inner, (*place, k)) for k, inner in enumerate(inner_of(term))]
    if len(given) > len(parts):
        raise Fault("parts", place)
    for k, (tree, part) in enumerate(zip(given, parts)):
        if tree != part:
            raise Fault("kind", (*place, k + 1))
    return parts[len(given):], end


def term_fault(book, thing):
    """The word and the place for which a term is refused, None if it is right."""
    terms = all_inner(thing)
    for place, term, _ in terms:
        if not is_plainly_a_name(term) and not is_plainly_a_call(term) and not is_plainly_a_fun(term):
            return "shape", place
    for place, term, around in terms:
        if isinstance(term, str) and term not in kinds_around(book, around):
            return "name", place
    try:
        tree_of_term(dict(trees_in(book)), thing)
    except Fault as fault:
        return fault.told
    return None


def plain_kind(book, term):
    return kind_of_tree(tree_of_term(dict(trees_in(book)), term))


# Plain forms by functions of one argument: a value of an atom is a function from the number of variables at hand to a
# maker, a value of another kind a function of the value of the first part.

def named(tree, head, given=()):
    parts, end = tree
    if not parts:
        return lambda depth: (head, tuple(shown(part, value, depth) for part, value in given))
    return lambda value: named((parts[1:], end), head, (*given, (parts[0], value)))


def shown(tree, value, depth=0):
    for k, part in enumerate(tree[0]):
        value = value(named(part, depth + k))
    return value(depth + len(tree[0]))


def value_in(known, term):
    if isinstance(term, str):
        return known[term]
    if term[0] == "call":
        value = value_in(known, term[1])
        for inner in term[2]:
            value = value(value_in(known, inner))
        return value

    def taken(known, names):
        if not names:
            return value_in(known, term[2])
        return lambda value: taken({**known, names[0]: value}, names[1:])

    return taken(known, [name for name, _ in term[1]])


def plain_by_values(book, term):
    known = {name: named(tree, name) for name, tree in trees_in(book)}
    return shown(tree_of_term(dict(trees_in(book)), term), value_in(known, term))


# Terms for makers, written in one way, and changed into ones that are alike.

def written_out(book, wish, maker, names):
    """The term of a maker whose variables have these names, by their numbers."""
    def term(count, tree, part):
        opened = tuple((names[count + k], kind_of_tree(inner)) for k, inner in enumerate(tree[0]))
        hand.extend(tree[0])
        head, makers = part
        kind = dict(trees_in(book))[head] if isinstance(head, str) else hand[head]
        inner = tuple(term(count + len(opened), below, one) for below, one in zip(kind[0], makers))
        del hand[count:]
        own = head if isinstance(head, str) else names[head]
        own = ("call", own, inner) if inner else own
        return ("fun", opened, own) if opened else own

    hand = []
    return term(0, tree_of(wish), maker)


def free_in(term):
    """The names that stand for something around the term."""
    if isinstance(term, str):
        return {term}
    found = set().union(*map(free_in, inner_of(term)))
    return found - {name for name, _ in term[1]} if term[0] == "fun" else found


def term_at(term, place):
    for k in place:
        term = inner_of(term)[k]
    return term


def with_term_at(term, place, other):
    if not place:
        return other
    k, *rest = place
    inner = list(inner_of(term))
    inner[k] = with_term_at(inner[k], rest, other)
    return ("fun", term[1], inner[0]) if term[0] == "fun" else ("call", inner[0], tuple(inner[1:]))


def with_name_for(term, name, other):
    """The term in which a name that is free in it is another one, None if that one would be captured."""
    if isinstance(term, str):
        return other if term == name else term
    if name not in free_in(term):
        return term
    if term[0] == "fun" and other in {variable for variable, _ in term[1]}:
        return None
    inner = [with_name_for(one, name, other) for one in inner_of(term)]
    if None in inner:
        return None
    return ("fun", term[1], inner[0]) if term[0] == "fun" else ("call", inner[0], tuple(inner[1:]))


def split_call(rng, book, term, place, around, names):
    own = term_at(term, place)
    if not is_plainly_a_call(own) or len(own[2]) < 2:
        return None
    k = rng.randrange(1, len(own[2]))
    return with_term_at(term, place, ("call", ("call", own[1], own[2][:k]), own[2][k:]))


def split_fun(rng, book, term, place, around, names):
    own = term_at(term, place)
    if not is_plainly_a_fun(own) or len(own[1]) < 2:
        return None
    k = rng.randrange(1, len(own[1]))
    return with_term_at(term, place, ("fun", own[1][:k], ("fun", own[1][k:], own[2])))


def wrap_in_fun(rng, book, term, place, around, names):
    """A fun that changes nothing: it calls the term with its variables."""
    own, (parts, _) = term_at(term, place), tree_of_term(kinds_around(book, around), term_at(term, place))
    free = [name for name in names if name not in free_in(own)]
    if not parts or len(free) < len(parts):
        return None
    many = rng.randint(1, len(parts))
    row = rng.sample(free, many)
    variables = tuple((name, kind_of_tree(part)) for name, part in zip(row, parts))
    return with_term_at(term, place, ("fun", variables, ("call", own, tuple(row))))


def call_in_vain(rng, book, term, place, around, names):
    """The call of a fun that does not use one of its variables."""
    own, known = term_at(term, place), kinds_around(book, around)
    free = [name for name in names if name not in free_in(own)]
    if not free or not known:
        return None
    given = rng.choice(sorted(known))
    variable = (rng.choice(free), kind_of_tree(known[given]))
    return with_term_at(term, place, ("call", ("fun", (variable,), own), (given,)))


def take_out(rng, book, term, place, around, names):
    """The call of a fun with a piece of the term, for which a variable stands."""
    own = term_at(term, place)
    within = [(at, piece) for at, piece, funs in all_inner(own)
              if not free_in(piece) & {name for fun in funs for name, _ in fun[1]}]
    at, piece = rng.choice(within)
    kind = kind_of_tree(tree_of_term(kinds_around(book, around), piece))
    for name in rng.sample(names, len(names)):
        bound = {one for step in range(len(at)) for one in bound_by(term_at(own, at[:step]))}
        if name not in free_in(own) and name not in bound:
            return with_term_at(term, place, ("call", ("fun", ((name, kind),), with_term_at(own, at, name)), (piece,)))
    return None


def bound_by(term):
    return {name for name, _ in term[1]} if is_plainly_a_fun(term) else set()


def call_otherwise(rng, book, term, place, around, names):
    """One variable of a fun is called otherwise, perhaps like what is around it."""
    own = term_at(term, place)
    if not is_plainly_a_fun(own):
        return None
    k = rng.randrange(len(own[1]))
    name, kind = own[1][k]
    other = rng.choice(names)
    if other in free_in(own[2]) | bound_by(own):
        return None
    inner = with_name_for(own[2], name, other)
    return inner and with_term_at(term, place, ("fun", (*own[1][:k], (other, kind), *own[1][k + 1:]), inner))


WAYS = (split_call, split_fun, wrap_in_fun, call_in_vain, take_out, take_out, call_otherwise, call_otherwise)

# Some of them are names of books at random, too.
NAMES = ("a", "b", "y", "z", "x", "aa", "f")


def written_otherwise(rng, book, term, steps):
    """A term that is alike, by so many steps at drawn places."""
    for _ in range(steps):
        place, _, around = rng.choice(all_inner(term))
        changed = rng.choice(WAYS)(rng, book, term, place, around, NAMES)
        if changed is not None and len(all_inner(changed)) < 80:
            term = changed
    return term


def terms_for(rng, book, wish, maker, count, steps=8):
    """Terms that are alike to the maker."""
    fresh = [name for name in ("v" + letter for letter in "abcdefghijklmnopqrstuvwxyz") if name not in dict(book)]
    first = written_out(book, wish, maker, fresh + ["w" + name for name in fresh])
    return [first] + [written_otherwise(rng, book, first, rng.randint(1, steps)) for _ in range(count)]


# Changed terms.

ODD_TERMS = [
    None, True, 0, 1, "", "A", "abcdefghi", "p -> q", (), [], ("gap",), ("call",), ("call", "a"), ("call", "a", ()),
    ("call", "a", ["a"]), ["call", "a", ("a",)], ("call", "a", "a"), ("call", "a", ("a",), "a"), ("fun", (), "a"),
    ("fun", (("x", "p"), ("x", "p")), "x"), ("fun", (("x", "(p)"),), "x"), ("fun", (["x", "p"],), "x"),
    ("fun", [("x", "p")], "x"), ("fun", (("x", "p"),)), ("fun", ("x", "p"), "x"), ("fun", (("X", "p"),), "a"), (0, ()),
    ("a", ()), ("CALL", "a", ("a",)), ("call", None, (None,)), ("fun", (("x", "p"),), None), "zz", ("call", "zz", ("zz",)),
]


def changed_term(rng, book, term):
    """The term with a change at a drawn place."""
    place, own, around = rng.choice(all_inner(term))
    names = sorted(kinds_around(book, around)) + ["zz"]
    kinds = [kind for _, kind in book] + ["p", "q", random_kind(rng, 3)]
    found = [lambda: rng.choice(ODD_TERMS), lambda: rng.choice(names), lambda: rng.choice(names),
             lambda: ("call", own, (rng.choice(names),)), lambda: ("fun", ((rng.choice(NAMES), rng.choice(kinds)),), own)]
    if is_plainly_a_call(own):
        k = rng.randrange(len(own[2]))
        found += [
            lambda: ("call", own[1], own[2][:k] + own[2][k + 1:]), lambda: ("call", own[1], own[2] + own[2][:1]),
            lambda: ("call", own[1], own[2][::-1]), lambda: own[1], lambda: own[2][k], lambda: ("call", own[2][k], (own[1],)),
            lambda: ("call", own[1], own[2][:k] + (rng.choice(ODD_TERMS),) + own[2][k + 1:]), lambda: list(own),
        ]
    if is_plainly_a_fun(own):
        k = rng.randrange(len(own[1]))
        name, kind = own[1][k]
        found += [
            lambda: ("fun", own[1][:k] + ((name, rng.choice(kinds)),) + own[1][k + 1:], own[2]),
            lambda: ("fun", own[1][:k] + ((rng.choice(names), kind),) + own[1][k + 1:], own[2]),
            lambda: ("fun", own[1][:k] + own[1][k + 1:], own[2]), lambda: ("fun", own[1] + own[1][:1], own[2]),
            lambda: ("fun", own[1][::-1], own[2]), lambda: own[2], lambda: (*own, own[2]), lambda: ("fun", own[1], (own[2],)),
        ]
    return with_term_at(term, place, rng.choice(found)())


# Terms at random.

def drawn_fun(rng, tree, known, budget, many):
    """A fun of so many variables, some of them called like what is around it; None if no term was found."""
    parts, end = tree
    names = rng.sample(NAMES, many)
    inner = drawn_term(rng, (parts[many:], end), {**known, **dict(zip(names, parts))}, budget - 1)
    return inner and ("fun", tuple((name, kind_of_tree(part)) for name, part in zip(names, parts)), inner)


def drawn_call(rng, tree, known, budget):
    """The call of a term that may be a fun, with terms of kinds at random; None if no term was found."""
    trees = tuple(tree_of(random_kind(rng, 3, ("p", "q"), 2)) for _ in range(rng.randint(1, 2)))
    terms = [drawn_term(rng, one, known, budget - 2) for one in ((trees + tree[0], tree[1]), *trees)]
    return None if None in terms else ("call", terms[0], tuple(terms[1:]))


def drawn_name(rng, tree, known, budget):
    """A name, or a call of one; None if no term was found."""
    heads = [(name, kind[0][:k]) for name, kind in known.items() for k in range(len(kind[0]) + 1)
             if (kind[0][k:], kind[1]) == tree]
    rng.shuffle(heads)
    for name, parts in sorted(heads, key=lambda head: len(head[1]) * (budget <= 0))[:2]:
        if budget > -5 or not parts:
            terms = [drawn_term(rng, part, known, budget - 1) for part in parts]
            if None not in terms:
                return ("call", name, tuple(terms)) if terms else name
    return None


def drawn_term(rng, tree, known, budget):
    """A term of this kind where names have these kinds, None if none was found; it is deeper with more budget."""
    many = len(tree[0])
    if many > len(NAMES):
        return None
    if many and rng.random() < 0.6:
        return drawn_fun(rng, tree, known, budget, rng.randint(1, many))
    term = None
    if budget > 0 and rng.random() < 0.35:
        term = drawn_call(rng, tree, known, budget)
    term = term or drawn_name(rng, tree, known, budget)
    return term or (drawn_fun(rng, tree, known, budget, many) if many and budget > -5 else None)


def drawn_terms(seed, count, budgets=(3, 8)):
    """Books with terms that are right for them."""
    rng, found = random.Random(seed), []
    while len(found) < count:
        book = tuple(sorted({**dict(random_book(rng, 3, 4, ("p", "q"), 2)), "a": "p", "b": "q"}.items()))
        tree = tree_of(random_kind(rng, 5, ("p", "q"), 3))
        term = drawn_term(rng, tree, dict(trees_in(book)), rng.randint(*budgets))
        if term is not None and len(all_inner(term)) < 150:
            found.append((book, kind_of_tree(tree), term))
    return found
