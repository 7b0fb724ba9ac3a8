"""Makers made head by head.

A goal is a tuple (place, kinds, atom): a place that waits for its head, the kinds of the variables at hand there, by
number, and the wanted atom.
"""

from onlygiven.stands import stand_with


def first_goal(outlook):
    return ((), outlook.hand, outlook.wanted)


def heads_for(outlook, goal):
    """The heads with the wanted end, each with its kind: names, ascending, before variables, by their numbers."""
    _, hand, atom = goal
    heads = list(outlook.book) + list(enumerate(hand))
    return [(head, kind) for head, kind in heads if outlook.ends[kind] == atom]


def sizes_for(outlook, goal):
    """For each kind of head behind which all goals have makers, the least size of such a maker."""
    _, hand, atom = goal
    return outlook.sizes[stand_with(hand, atom)]


def goals_behind(outlook, goal, kind):
    """The goals that take the place of this one behind a head of this kind."""
    place, hand, _ = goal
    parts = outlook.rows[kind]
    return [(place + (k,), hand + outlook.rows[part], outlook.ends[part]) for k, part in enumerate(parts)]


def maker_from(taken):
    """The maker of these heads, places ascending, each with how many makers it has."""
    makers = []
    for head, many in list(taken)[::-1]:
        # Later heads come first here, so the makers of this one are the last ones, and stand in reverse.
        start = len(makers) - many
        row = makers[start:]
        del makers[start:]
        makers.append((head, tuple(row[::-1])))
    return makers[0]


def kinds_to_take(outlook, goal, chosen):
    """The kind that is chosen for the place of the goal, or else those that lead to a least maker."""
    if goal[0] in chosen:
        return [chosen[goal[0]]]
    sizes = sizes_for(outlook, goal)
    least = min(sizes.values())
    return [kind for kind in sizes if sizes[kind] == least]


def first_head(outlook, goal, chosen):
    """The first head that may be taken, with its kind."""
    kinds = kinds_to_take(outlook, goal, chosen)
    return [(head, kind) for head, kind in heads_for(outlook, goal) if kind in kinds][0]


def maker_by(outlook, pick):
    """The maker whose heads, each with its kind, pick tells for the goals."""
    # The first goal stands last, so that goals come and go at one end of the list.
    goals = [first_goal(outlook)]
    taken = []
    while goals:
        goal = goals.pop()
        head, kind = pick(goal)
        behind = goals_behind(outlook, goal, kind)
        taken.append((head, len(behind)))
        goals.extend(behind[::-1])
    return maker_from(taken)


def least_maker(outlook, chosen):
    """The least maker that has a head of the chosen kind at each place for which a kind is chosen."""
    return maker_by(outlook, lambda goal: first_head(outlook, goal, chosen))
