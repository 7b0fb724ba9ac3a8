"""Makers gone through place by place. No calls in calls: makers may be of any depth."""

from onlygiven.errors import InvalidPaper, NotUsable
from onlygiven.kinds import has_maker_form, is_number
from onlygiven.kindsplits import end_in, parts_in


def placed_parts(maker):
    """The list of the pairs of a place and what stands there, places ascending."""
    waiting = [((), maker)]
    found = []
    while waiting:
        place, part = waiting.pop()
        found.append((place, part))
        behind = [(place + (k,), inner) for k, inner in enumerate(part[1])]
        waiting.extend(behind[::-1])
    return found


def part_found(maker, place):
    """What stands at the place, any value; None if it is no place of the maker."""
    if not isinstance(place, tuple):
        return None
    part = maker
    for k in place:
        if not is_number(k) or k >= len(part[1]):
            return None
        part = part[1][k]
    return part


def kind_of_head(kinds, hand, head):
    """The kind of a name or a number as a head; None if there is no such name or variable."""
    if isinstance(head, str):
        return kinds.get(head)
    return hand[head] if head < len(hand) else None


def parts_behind(kinds, goal, part):
    """The kinds of the makers of what stands at the place of the goal; InvalidPaper if it cannot stand there."""
    place, hand, atom = goal
    if not has_maker_form(part):
        raise InvalidPaper("shape", place)
    kind = kind_of_head(kinds, hand, part[0])
    if kind is None or end_in(kind) != atom:
        raise InvalidPaper("head", place)
    parts = parts_in(kind)
    if len(parts) != len(part[1]):
        raise InvalidPaper("makers", place)
    return parts


def spots_of(book, wish, thing):
    """For each place of a maker, ascending, the goal and what stands there; InvalidPaper if it is none of the wish.

    A goal is a tuple (place, kinds, atom): the kinds of the variables at hand, by number, and the wanted atom.
    """
    kinds = dict(book)
    waiting = [((), (), wish, thing)]
    spots = []
    while waiting:
        place, hand, kind, part = waiting.pop()
        goal = (place, hand + tuple(parts_in(kind)), end_in(kind))
        parts = parts_behind(kinds, goal, part)
        spots.append((goal, part))
        behind = [(place + (k,), goal[1], inner, part[1][k]) for k, inner in enumerate(parts)]
        waiting.extend(behind[::-1])
    return spots


def usable_spots(book, wish, thing, word):
    """The spots of an argument, which is to be a maker of the wish."""
    try:
        return spots_of(book, wish, thing)
    except InvalidPaper:
        raise NotUsable(word, -1) from None


def goal_found(spots, place):
    """The goal at the place, any value; None if it is no place of the maker."""
    if part_found(spots[0][1], place) is None:
        return None
    return [goal for goal, _ in spots if goal[0] == place][0]


def hands_around(spots):
    """For each spot how many variables are at hand around its place, without those that are opened there."""
    many = {goal[0]: len(goal[1]) for goal, _ in spots}
    return [many[goal[0][:-1]] if goal[0] else 0 for goal, _ in spots]


def is_below(goal, other):
    """Whether the second goal stands below the first one."""
    place = goal[0]
    return len(other[0]) > len(place) and other[0][:len(place)] == place


def sizes_of(spots):
    """For each spot the size of the maker there."""
    sizes = []
    behind = []
    for _, part in spots[::-1]:
        # The sizes of the makers of this one stand at the end.
        start = len(behind) - len(part[1])
        size = 1 + sum(behind[start:])
        del behind[start:]
        behind.append(size)
        sizes.append(size)
    return sizes[::-1]
