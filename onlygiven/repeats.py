"""Makers in which an atom is wanted at a place and once more below it.

A way is a tuple (cost, kind, k, stand): one step down from a stand, by a head of this kind, to the stand to which its
part k leads; the head and its other makers, each the least one, have this size together.
"""


def ways_from(outlook):
    """For each stand at which something can be made the ways down from it."""
    ways = {}
    for stand, sizes in outlook.sizes.items():
        ways[stand] = [
            (size - outlook.least[child], kind, k, child)
            for kind, size in sizes.items() for k, child in enumerate(outlook.steps[stand][kind])
        ]
    return ways


def best_way(ways, sizes):
    """The way of the least size, cost and rest together, as (size, kind, k, stand); None if there is no way.

    sizes has the sizes that the rests have at least, for the stands that will do.
    """
    return min([(cost + sizes[stand], kind, k, stand) for cost, kind, k, stand in ways if stand in sizes], default=None)


def sizes_down(ways, targets):
    """For each stand from which some way goes down to a target, or that is one, the least size of such a maker.

    targets has for each target the size of what is made there.
    """
    sizes = {stand: targets[stand] for stand in targets}
    stands = list(ways)[::-1]
    changed = True
    while changed:
        changed = False
        for stand in stands:
            best = best_way(ways[stand], sizes)
            if best is not None and (stand not in sizes or best[0] < sizes[stand]):
                sizes[stand] = best[0]
                changed = True
    return sizes


class Descent:
    """The least makers that have one of the targets, a stand with the size of what is made there."""

    def __init__(self, ways, targets):
        self.ways = ways
        self.targets = targets
        self.sizes = sizes_down(ways, targets)

    def down(self, stand, place, chosen):
        """Goes down from the place to a target, writes down the kinds on the way, and returns where it ended."""
        while self.sizes[stand] != self.targets.get(stand):
            stand, place = self.step(stand, place, chosen)
        return stand, place

    def step(self, stand, place, chosen):
        """Takes the best way down from the stand, be it a target or not."""
        _, kind, k, below = best_way(self.ways[stand], self.sizes)
        chosen[place] = kind
        return below, place + (k,)


def targets_with(least, atom):
    """The stands at which the atom is wanted, with the least sizes there."""
    return {stand: least[stand] for stand in least if stand[1] == atom}


def turns_of(ways, second):
    """The stands below which their own atom is wanted once more, with the least sizes of makers that have both."""
    best = {stand: best_way(ways[stand], second[stand[1]].sizes) for stand in ways}
    return {stand: best[stand][0] for stand in best if best[stand] is not None}


class Repeats:
    """The least maker of a wish in which an atom is wanted at a place and once more below it, if there is one."""

    def __init__(self, outlook):
        ways = ways_from(outlook)
        atoms = sorted({stand[1] for stand in outlook.least})
        self.outlook = outlook
        self.second = {atom: Descent(ways, targets_with(outlook.least, atom)) for atom in atoms}
        self.start = Descent(ways, turns_of(ways, self.second))

    def are_there(self):
        """Whether there is such a maker; if so, and only then, the wish has endlessly many."""
        return self.outlook.first in self.start.sizes

    def found(self):
        """The kinds of the heads to take, by place, and the two places."""
        chosen = {}
        stand, place = self.start.down(self.outlook.first, (), chosen)
        second = self.second[stand[1]]
        below, deeper = second.step(stand, place, chosen)
        _, deeper = second.down(below, deeper, chosen)
        return chosen, place, deeper
