"""Verdicts on wishes: "none", "one", "some" or "endless", from the lowest to the highest."""

from onlygiven.counting import how_many


def verdict_on(book, wish):
    number = how_many(book, wish)
    if number is None:
        return "endless"
    if number > 1:
        return "some"
    return "one" if number == 1 else "none"


def verdicts_on(book, wishes):
    """The pairs of a wish and the verdict on it."""
    return tuple([(wish, verdict_on(book, wish)) for wish in wishes])


def verdict_changes(wishes, book, other):
    """For each wish on which the verdicts over the two books differ the wish and both verdicts."""
    befores = verdicts_on(book, wishes)
    afters = dict(verdicts_on(other, wishes))
    return tuple([(wish, before, afters[wish]) for wish, before in befores if before != afters[wish]])
