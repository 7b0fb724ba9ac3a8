"""Stands, where they lead, and the least sizes of makers there. What is handed in here is not checked.

A stand has the kinds of the variables at hand, but not how many there are of each. This is all that has to be known
to tell whether something can be made, and of what size the least maker is; and there are only so many stands.
"""

from onlygiven.kindsplits import end_in, parts_in


def stand_with(hand, atom):
    """The stand with the kinds of these variables, at which the atom is wanted."""
    return (tuple(sorted(set(hand))), atom)


def stand_of_wish(wish):
    return stand_with(parts_in(wish), end_in(wish))


def stand_beyond(stand, part):
    """The stand to which a part leads."""
    return stand_with(stand[0] + tuple(parts_in(part)), end_in(part))


def heads_of_stand(book, stand):
    """The list of the kinds with the stand's end of the names of the book and of its own kinds, each once."""
    kinds = [entry[1] for entry in book] + list(stand[0])
    return sorted(set([kind for kind in kinds if end_in(kind) == stand[1]]))


def stands_behind(stand, head):
    """The stands to which the parts of a head lead."""
    return [stand_beyond(stand, part) for part in parts_in(head)]


def stands_below(heads):
    """The list of the stands behind all of these heads, one head after the other."""
    return [stand for stands in heads.values() for stand in stands]


def steps_from(first, given, rows, ends):
    """For each stand to which the first one leads: for each of its heads the stands to which the parts lead.

    given are the kinds of the names of the book, rows the parts and ends the ends of all kinds within.
    """
    steps = {}
    waiting = [first]
    while waiting:
        stand = waiting.pop()
        if stand in steps:
            continue
        kinds, atom = stand
        heads = sorted(set([kind for kind in given + list(kinds) if ends[kind] == atom]))
        behind = {head: [stand_with(kinds + rows[part], ends[part]) for part in rows[head]] for head in heads}
        waiting.extend(stands_below(behind))
        steps[stand] = behind
    return steps


def head_sizes(heads, least):
    """For each head all of whose parts can be made: the least size of a maker with this head."""
    return {
        head: 1 + sum([least[stand] for stand in stands])
        for head, stands in heads.items() if all([stand in least for stand in stands])
    }


def least_values(steps, values_at):
    """For each stand at which something can be made the least value of one of its heads.

    values_at tells for a stand, and the least values that are known so far, the values of the heads, which only fall.
    """
    least = {}
    # What comes behind a stand was mostly found later: so this way few rounds are enough.
    stands = list(steps)[::-1]
    changed = True
    while changed:
        changed = False
        for stand in stands:
            value = min(list(values_at(stand, least).values()), default=None)
            if value is not None and value != least.get(stand):
                least[stand] = value
                changed = True
    return least


def least_sizes(steps):
    """For each stand at which something can be made the least size of a maker."""
    return least_values(steps, lambda stand, least: head_sizes(steps[stand], least))
