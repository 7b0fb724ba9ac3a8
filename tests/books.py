"""The books of the document's examples."""

PAIR = (("a", "p"), ("b", "p"), ("f", "p -> p -> q"))
ROUND = (("f", "p -> q"), ("g", "q -> p"))
LIST = (("cons", "p -> s -> s"), ("nil", "s"))
PEIRCE = "((p -> q) -> p) -> p"
DEAD = (("a", "p"), ("b", "s"), ("g", "s -> s"), ("h", "r -> s -> p"))
SAFE = (("a", "q"), ("u", "s -> t"), ("v", "s"))
