"""The numbers of makers among those of one size.

counts is a SizeCounts of at least this size. A share is a pair (size, k): number k of the makers of this size.
"""

from onlygiven.goals import first_goal, goals_behind, heads_for, maker_from


def head_with(outlook, counts, goal, share):
    """The head of the maker with this share, its kind, and the number of the maker among those with this head."""
    size, k = share
    rows = counts.rows_at(goal)
    heads = [(head, kind) for head, kind in heads_for(outlook, goal) if kind in rows]
    at = 0
    # Heads come in their order, so those of all lesser makers with other heads come earlier.
    while k >= counts.ways[rows[heads[at][1]]][size - 1]:
        k = k - counts.ways[rows[heads[at][1]]][size - 1]
        at = at + 1
    return heads[at][0], heads[at][1], k


def shares_in(counts, row, places, k):
    """The shares of the makers of a row, which is number k of those with so many places."""
    shares = []
    for j, state in enumerate(row):
        rest = counts.ways[row[j + 1:]]
        size = 1
        while k >= counts.counts[state][size] * rest[places - size]:
            k = k - counts.counts[state][size] * rest[places - size]
            size = size + 1
        places = places - size
        shares.append((size, k // rest[places]))
        k = k - shares[-1][1] * rest[places]
    return shares


def maker_of_share(outlook, counts, share):
    """The maker of the wish with this share."""
    waiting = [(first_goal(outlook), share)]
    taken = []
    while waiting:
        goal, own = waiting.pop()
        head, kind, k = head_with(outlook, counts, goal, own)
        goals = goals_behind(outlook, goal, kind)
        shares = shares_in(counts, counts.rows_at(goal)[kind], own[0] - 1, k)
        taken.append((head, len(goals)))
        behind = [(goals[j], inner) for j, inner in enumerate(shares)]
        waiting.extend(behind[::-1])
    return maker_from(taken)


def number_in_row(counts, row, shares):
    """The number of the row among those with as many places."""
    places = sum([size for size, _ in shares])
    number = 0
    for j, (size, k) in enumerate(shares):
        rest = counts.ways[row[j + 1:]]
        for less in range(1, size):
            number = number + counts.counts[row[j]][less] * rest[places - less]
        places = places - size
        number = number + k * rest[places]
    return number


def share_with(outlook, counts, goal, head, shares):
    """The share of the maker with this head and makers of these shares."""
    rows = counts.rows_at(goal)
    heads = heads_for(outlook, goal)
    at = [other for other, _ in heads].index(head)
    places = sum([size for size, _ in shares])
    earlier = sum([counts.ways[rows[kind]][places] for _, kind in heads[:at] if kind in rows])
    return 1 + places, earlier + number_in_row(counts, rows[heads[at][1]], shares)


def share_of(outlook, counts, spots):
    """The share of the maker of these spots."""
    behind = []
    for goal, part in spots[::-1]:
        # The shares of the makers of this one stand at the end, in reverse.
        start = len(behind) - len(part[1])
        shares = behind[start:][::-1]
        del behind[start:]
        behind.append(share_with(outlook, counts, goal, part[0], shares))
    return behind[0]
