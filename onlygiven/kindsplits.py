"""Kinds taken apart and put together. What is handed in here is known to be right, and is not checked.

Parentheses open only ahead of a name, and close only behind one. So the pieces between the arrows tell all, and
nothing here needs calls in calls: kinds may be of any depth.
"""

ARROW = " -> "


def part_in_row(part):
    """A part as it stands in a kind."""
    return f"({part})" if ARROW in part else part


def part_alone(part):
    """A part without the parentheses in which it stands in a kind."""
    return part[1:-1] if part.startswith("(") else part


def parts_in(kind):
    """The list of the parts."""
    rows = []
    row = []
    depth = 0
    for piece in kind.split(ARROW):
        row.append(piece)
        depth = depth + piece.count("(") - piece.count(")")
        if depth == 0:
            rows.append(ARROW.join(row))
            row = []
    return [part_alone(part) for part in rows[:-1]]


def end_in(kind):
    return kind.rpartition(ARROW)[2]


def names_in_kind(kind):
    """The list of the atoms, from left to right, with repetitions."""
    return [piece.strip("()") for piece in kind.split(ARROW)]


def kind_with(parts, end):
    """The kind with these parts, a list, and this end."""
    return ARROW.join([part_in_row(part) for part in parts] + [end])


def kinds_inside(kinds):
    """The list of these kinds, their parts, and what is within these, each once, in any order."""
    inside = []
    waiting = list(kinds)
    while waiting:
        kind = waiting.pop()
        if kind not in inside:
            inside.append(kind)
            waiting.extend(parts_in(kind))
    return inside
