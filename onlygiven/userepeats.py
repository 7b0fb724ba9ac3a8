"""Makers in which an atom is wanted at a place and once more below it, and a name is used between.

A way with a use is a tuple (cost, kind, k, stand, j): a way of repeats by which the name is used, beside what lies
further down. j is the index of the maker that uses it, or -1 if the name itself is the head.
"""

from onlygiven.repeats import Descent, targets_with, ways_from


def siblings_of_use(stands, k, using):
    """The indexes of the other makers in which the name can be used; using has the least sizes of such makers."""
    return [j for j, stand in enumerate(stands) if j != k and stand in using]


def ways_with_use(outlook, used, using):
    """For each stand at which something can be made the ways down from it with a use; used is the kind of the name."""
    ways = {}
    for stand, sizes in outlook.sizes.items():
        row = []
        for kind, size in sizes.items():
            below = outlook.steps[stand][kind]
            for k, child in enumerate(below):
                cost = size - outlook.least[child]
                if kind == used:
                    row.append((cost, kind, k, child, -1))
                for j in siblings_of_use(below, k, using):
                    row.append((cost - outlook.least[below[j]] + using[below[j]], kind, k, child, j))
        ways[stand] = row
    return ways


def best_use(ways, sizes):
    """The way with a use of the least size, cost and rest together; None if there is none."""
    rows = [(cost + sizes[child], kind, k, child, j) for cost, kind, k, child, j in ways if child in sizes]
    return min(rows, default=None)


def targets_of_use(ways, sizes):
    """For each stand from which a way with a use goes down to what has these sizes the least size of such a maker."""
    best = {stand: best_use(ways[stand], sizes) for stand in ways}
    return {stand: best[stand][0] for stand in best if best[stand] is not None}


class UseRepeats:
    """The least maker of a wish in which an atom is wanted at a place and once more below it, and a name used between.

    using leads down to a use of the name, second, for each atom, to a place where it is wanted, and between to a way
    with a use that leads on there.
    """

    def __init__(self, outlook, name):
        kind = dict(outlook.book)[name]
        sizes = outlook.sizes
        ways = ways_from(outlook)
        atoms = sorted(set([stand[1] for stand in outlook.least]))
        self.outlook = outlook
        self.used = kind
        self.using = Descent(ways, {stand: sizes[stand][kind] for stand in sizes if kind in sizes[stand]})
        self.uses = ways_with_use(outlook, kind, self.using.sizes)
        self.second = {atom: Descent(ways, targets_with(outlook.least, atom)) for atom in atoms}
        self.between = {atom: Descent(ways, targets_of_use(self.uses, self.second[atom].sizes)) for atom in atoms}
        between = self.between
        self.start = Descent(ways, {
            stand: between[stand[1]].sizes[stand] for stand in sizes if stand in between[stand[1]].sizes
        })

    def are_there(self):
        """Whether there is such a maker; if so, and only then, the name can be used more and more often."""
        return self.outlook.first in self.start.sizes

    def found(self):
        """The kinds of the heads to take, by place, the two places, and that of the use."""
        chosen = {}
        stand, place = self.start.down(self.outlook.first, (), chosen)
        second = self.second[stand[1]]
        stand, at = self.between[stand[1]].down(stand, place, chosen)
        _, kind, k, below, j = best_use(self.uses[stand], second.sizes)
        chosen[at] = kind
        _, deeper = second.down(below, at + (k,), chosen)
        if j >= 0:
            _, at = self.using.down(self.outlook.steps[stand][kind][j], at + (j,), chosen)
            chosen[at] = self.used
        return chosen, place, deeper, at
