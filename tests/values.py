"""Values of every kind of "any value", for the functions that accept any value."""


def nested(depth, wrap, inner):
    """The inner value in so many tuples or lists of one element."""
    for _ in range(depth):
        inner = wrap([inner])
    return inner


SIXTY_DIGITS = int("9" * 60)

ANY_VALUES = [
    0, 1, -1, 7, SIXTY_DIGITS, -SIXTY_DIGITS, True, False, None,
    "", " ", "\n", "p", "p\n", "abcdefgh", "abcdefghi", "P", "p1", "p -> q", "(p -> q) -> p", "0", "-", "~",
    (), [], ((),), [()], ([],), [[]], (None,), (True,), (0,), ("p",), ["p"],
    ("a", "p"), ["a", "p"], (("a", "p"),), [("a", "p")], (["a", "p"],),
    ("f", ()), (0, ()), (True, ()), ("f", []), [0, ()],
    ((), "p"), ([], "p"), (("p",), "q"), (("p", "p"), "q"),
    ("call", "f", ("a",)), ("fun", (("x", "p"),), "x"), ("gap",),
    ("drop", "f"), ("name", "f", "p"), ("let", "p"), ("bench", ()),
    nested(40, tuple, "p"), nested(40, list, "p"), nested(39, tuple, []), nested(20, tuple, nested(20, list, 1)),
    tuple([True, 1, None, "p"] * 1000), list(range(5000)),
]

NO_STRINGS = [thing for thing in ANY_VALUES if not isinstance(thing, str)]
