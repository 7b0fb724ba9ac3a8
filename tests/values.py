"""Values of every kind of "any value", for the functions that accept any value, and what they are not."""

import re

from oracles import is_kind_text


def nested(depth, wrap, inner):
    """The inner value in so many tuples or lists of one element."""
    for _ in range(depth):
        inner = wrap([inner])
    return inner


SIXTY_DIGITS = int("9" * 60)

ANY_VALUES = [
    0, 1, -1, 7, SIXTY_DIGITS, -SIXTY_DIGITS, True, False, None,
    "", " ", "\n", "p", "p\n", "abcdefgh", "abcdefghi", "P", "p1", "p -> q", "(p -> q) -> p", "0", "-", "~",
    (), [], ((),), [()], ([],), [[]], (None,), (True,), (0,), ("p",), ["p"],
    ("a", "p"), ["a", "p"], (("a", "p"),), [("a", "p")], (["a", "p"],),
    ("f", ()), (0, ()), (True, ()), ("f", []), [0, ()],
    ((), "p"), ([], "p"), (("p",), "q"), (("p", "p"), "q"),
    ("call", "f", ("a",)), ("fun", (("x", "p"),), "x"), ("gap",),
    ("drop", "f"), ("name", "f", "p"), ("let", "p"), ("bench", ()),
    nested(40, tuple, "p"), nested(40, list, "p"), nested(39, tuple, []), nested(20, tuple, nested(20, list, 1)),
    tuple([True, 1, None, "p"] * 1000), list(range(5000)),
]

NO_STRINGS = [thing for thing in ANY_VALUES if not isinstance(thing, str)]


def is_plainly_a_name(thing):
    return isinstance(thing, str) and re.fullmatch("[a-z]{1,8}", thing) is not None


def is_plainly_a_kind(thing):
    return isinstance(thing, str) and is_kind_text(thing)


def is_plainly_an_entry(thing):
    return isinstance(thing, tuple) and len(thing) == 2 and is_plainly_a_name(thing[0]) and is_plainly_a_kind(thing[1])


def is_plainly_a_book(thing):
    if not isinstance(thing, tuple) or not all(is_plainly_an_entry(entry) for entry in thing):
        return False
    return [name for name, _ in thing] == sorted({name for name, _ in thing})


NO_NAMES = [thing for thing in ANY_VALUES if not is_plainly_a_name(thing)]

NO_KINDS = [thing for thing in ANY_VALUES if not is_plainly_a_kind(thing)] + [
    "(p)", "(p -> q)", "p ->", "p -> ", "-> p", "p->q", "p -> (q)", "p -> (q -> r)", "((p -> q)) -> p", "(p -> q -> r",
    "p -> q)", "p  -> q", " p", "p ", "p -> Q", "p -> q\n", "p -> abcdefghi", ("p", "q"), ["p -> q"], "p, q", "p: q",
]

NO_ENTRIES = [thing for thing in ANY_VALUES if not is_plainly_an_entry(thing)] + [
    ("a", "(p)"), ("A", "p"), ["a", "p"], ("a", "p", "q"), ("a",), "a: p", ("abcdefghi", "p"), ("a", None), (("a", "p"),),
    ("a", ["p"]), (["a"], "p"), (True, "p"),
]

NO_BOOKS = [thing for thing in ANY_VALUES if not is_plainly_a_book(thing)] + [
    (("b", "p"), ("a", "p")), (("a", "p"), ("a", "p")), (("a", "p"), ("a", "q")), (("a", "p"), ("b", "(p)")),
    (("a", "p"), ["b", "p"]), (("a", "p"), ("b", "p", "q")), [("a", "p"), ("b", "p")], (("A", "p"),), (("a", 0),),
    {"a": "p"}, (("a", ("p",)),), ((("a",), "p"),),
]

NO_NUMBERS = [thing for thing in ANY_VALUES if isinstance(thing, bool) or not isinstance(thing, int) or thing < 0] + [
    -2, "1", (1,), [1],
]


def is_plainly_a_maker(thing):
    if not isinstance(thing, tuple) or len(thing) != 2 or not isinstance(thing[1], tuple):
        return False
    number = isinstance(thing[0], int) and not isinstance(thing[0], bool) and thing[0] >= 0
    return (number or is_plainly_a_name(thing[0])) and all(is_plainly_a_maker(maker) for maker in thing[1])


NO_MAKERS = [thing for thing in ANY_VALUES if not is_plainly_a_maker(thing)] + [
    ("f", [("a", ())]), ["f", ()], ("f", ((True, ()),)), ("f", ((-1, ()),)), ("f", (("a", ()), "b")), ("F", ()), ("f",),
    ("f", (), ()), "f(a)", ("f", ("a", ())), ("f", (["a", ()],)), ("call", "f", ()), ((), ()), ("f", None), (1, 2),
]

# No places of any maker.
NO_PLACES = [thing for thing in ANY_VALUES if thing not in ((), (0,))] + [
    (-1,), (True,), (False,), (None,), ("a",), ([0],), [0], 0, (SIXTY_DIGITS,), (0, -1), ("0",), ((0,),), (False, 0),
]
