"""The checker of handout papers."""

from onlygiven.bookchanges import are_names, handed
from onlygiven.errors import InvalidPaper
from onlygiven.handing import check_handout
from onlygiven.kinds import is_number, is_row, names_of
from onlygiven.makers import lets_maker
from onlygiven.tablechecker import lets_shut


def are_triples(thing):
    return isinstance(thing, tuple) and all([is_row(row, 3) for row in thing])


def is_accepted(checker, book, wish, thing):
    """Whether a checker accepts what is handed to it."""
    try:
        checker(book, wish, thing)
    except InvalidPaper:
        return False
    return True


def are_accepted(checker, book, wishes, things):
    """Whether any value has as many elements as there are wishes, which a checker accepts, each for its wish."""
    if not is_row(things, len(wishes)):
        return False
    return all([is_accepted(checker, book, wish, thing) for wish, thing in zip(wishes, things)])


def check_shown(book, wishes, rows, i, checker):
    """Each row of poor or rich has a set of names, the index of a wish, and what is accepted for it."""
    for k, (names, at, thing) in enumerate(rows):
        if not are_names(book, names):
            raise InvalidPaper("set", (i, k))
        if not is_number(at) or at >= len(wishes):
            raise InvalidPaper("wish", (i, k))
        if not is_accepted(checker, handed(book, names), wishes[at], thing):
            raise InvalidPaper("paper", (i, k))


def check_good(book, let, barred, rows):
    """Each row of good has a set of names, and what is accepted for each wish."""
    for k, (names, makers, tables) in enumerate(rows):
        if not are_names(book, names):
            raise InvalidPaper("set", (2, k))
        own = handed(book, names)
        if not are_accepted(lets_maker, own, let, makers) or not are_accepted(lets_shut, own, barred, tables):
            raise InvalidPaper("paper", (2, k))


def lies_in(names, other):
    return all([name in other for name in names])


def is_told_of(names, sets):
    """Whether it follows from the sets of a paper what the set of names is: poor, rich, or good."""
    poor, rich, good = sets
    if any([lies_in(names, other) for other in poor]) or any([lies_in(other, names) for other in rich]):
        return True
    return any([lies_in(other, names) for other in good]) and any([lies_in(names, other) for other in good])


def one_name_more(sets, names):
    """The sets with one more name, which comes behind all of theirs; ascending, if they ascend and are of one size."""
    return [given + (name,) for given in sets for name in names if given[-1:] < (name,)]


def check_left(book, sets):
    """No set of names is left of which it does not follow what it is."""
    level = [()]
    while level:
        for names in level:
            if not is_told_of(names, sets):
                raise InvalidPaper("left", names)
        level = one_name_more(level, names_of(book))


def lets_handout(book, let, barred, thing):
    """How many good sets a handout paper has; InvalidPaper if it is none."""
    check_handout(book, let, barred)
    if not is_row(thing, 3) or not all([are_triples(rows) for rows in thing]):
        raise InvalidPaper("shape", -1)
    poor, rich, good = thing
    check_shown(book, let, poor, 0, lets_shut)
    check_shown(book, barred, rich, 1, lets_maker)
    check_good(book, let, barred, good)
    check_left(book, [names_of(rows) for rows in thing])
    return len(good)
