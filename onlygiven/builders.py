"""Makers that are built head by head."""

from onlygiven.errors import NotMade, NotUsable, NothingToUndo
from onlygiven.goals import first_goal, goals_behind, heads_for, maker_from, sizes_for
from onlygiven.kinds import is_name, is_number
from onlygiven.outlooks import outlook_for
from onlygiven.usable import check_usable


class Step:
    """A builder as it is behind a head: this head, how many makers it has, the goals, and the heads on offer."""

    def __init__(self, head, many, goals, offered):
        self.head = head
        self.many = many
        self.goals = goals
        self.offered = offered


def heads_offered(outlook, goals):
    """The heads for the first goal behind which all goals still have makers."""
    if not goals:
        return ()
    kinds = sizes_for(outlook, goals[0])
    return tuple([head for head, kind in heads_for(outlook, goals[0]) if kind in kinds])


def first_step(outlook):
    goals = (first_goal(outlook),)
    return Step(None, 0, goals, heads_offered(outlook, goals))


def is_offered(step, head):
    """Whether any value is a head that is on offer: True is not 1."""
    return (is_name(head) or is_number(head)) and head in step.offered


def step_behind(outlook, step, head):
    """The step behind this one, by a head that is on offer."""
    goal = step.goals[0]
    kind = dict(heads_for(outlook, goal))[head]
    behind = tuple(goals_behind(outlook, goal, kind))
    goals = behind + step.goals[1:]
    return Step(head, len(behind), goals, heads_offered(outlook, goals))


class Kept:
    """What a builder was at the beginning of a block, and what was kept for the block around it."""

    def __init__(self, steps, floor, outer):
        self.steps = steps
        self.floor = floor
        self.outer = outer


class Builder:
    """Makes a maker of the wish head by head.

    Its steps stand in a tuple that is never changed, only replaced. So a trial can put it back by an assignment.
    """

    def __init__(self, book, wish):
        outlook = outlook_for(book, wish)
        if not outlook.has_maker():
            raise NotMade(wish)
        self._outlook = outlook
        self._steps = (first_step(outlook),)
        # How many of the steps cannot be taken back.
        self._floor = 1
        # What is to be put back at the end of the innermost block.
        self._kept = None

    @property
    def goals_now(self):
        return self._steps[-1].goals

    @property
    def is_done(self):
        return len(self._steps[-1].goals) == 0

    @property
    def made_now(self):
        """The maker, None as long as there is a goal."""
        if self._steps[-1].goals:
            return None
        return maker_from([(step.head, step.many) for step in self._steps[1:]])

    @property
    def next_head(self):
        """The first head on offer, None if there is none."""
        offered = self._steps[-1].offered
        return offered[0] if offered else None

    @next_head.setter
    def next_head(self, value):
        self.take(value)

    def offers(self):
        """The heads on offer, in their order."""
        return self._steps[-1].offered

    def take(self, head):
        """Takes a head for the first goal, and returns how many goals there are then."""
        step = self._steps[-1]
        check_usable(is_offered(step, head), "head")
        self._steps = self._steps + (step_behind(self._outlook, step, head),)
        return len(self._steps[-1].goals)

    def set_next(self, head):
        """Takes a head, as take does."""
        return self.take(head)

    def __iadd__(self, other):
        self.take(other)
        return self

    def back(self):
        """Takes the last head back, and returns it."""
        if len(self._steps) == self._floor:
            raise NothingToUndo(0)
        head = self._steps[-1].head
        self._steps = self._steps[:-1]
        return head

    def forced(self):
        """Takes heads as long as just one is offered, and returns how many it took."""
        before = len(self._steps)
        while len(self.offers()) == 1:
            self.take(self.offers()[0])
        return len(self._steps) - before

    def trial(self):
        """A block for trying: at its end the builder is as it was at its beginning."""
        # The builder is its own block, and keeps what is to be put back.
        return self

    def __enter__(self):
        self._kept = Kept(self._steps, self._floor, self._kept)
        self._floor = len(self._steps)
        return self

    def __exit__(self, kind, value, trace):
        self._steps = self._kept.steps
        self._floor = self._kept.floor
        self._kept = self._kept.outer

    def tried(self, *heads):
        """The goals as they are after these heads; nothing changes."""
        step = self._steps[-1]
        for k, head in enumerate(heads):
            if not is_offered(step, head):
                raise NotUsable("heads", k)
            step = step_behind(self._outlook, step, head)
        return step.goals
