"""The checker of count papers."""

from onlygiven.errors import InvalidPaper
from onlygiven.kinds import is_kind, is_name, is_number, is_row
from onlygiven.kindsplits import end_in, parts_in
from onlygiven.makerwalks import spots_of
from onlygiven.outlooks import check_wish
from onlygiven.repeatchecker import check_repeat
from onlygiven.shutstands import check_shut, check_stands, leads_into
from onlygiven.stands import heads_of_stand, stand_of_wish, stand_with


def is_hand(thing):
    """Whether it is a tuple of kinds none of which is less than the one before it."""
    if not isinstance(thing, tuple) or not all([is_kind(kind) for kind in thing]):
        return False
    return all([low <= high for low, high in zip(thing, thing[1:])])


def is_count_row(thing):
    """Whether it is a pair of a pair of a hand and an atom, and a number."""
    if not is_row(thing, 2) or not is_row(thing[0], 2):
        return False
    return is_hand(thing[0][0]) and is_name(thing[0][1]) and is_number(thing[1])


def hand_with(hand, kind):
    """The kinds of the variables at hand with those that are opened for the parts of a kind."""
    return tuple(sorted(list(hand) + parts_in(kind)))


def ways_with(book, hand, head, earlier):
    """How many ways there are with the heads of a kind, by earlier rows; None if one that is needed is not there."""
    ways = len([entry for entry in book if entry[1] == head]) + hand.count(head)
    for part in parts_in(head):
        state = (hand_with(hand, part), end_in(part))
        if state not in earlier:
            return None
        ways = ways * earlier[state]
    return ways


def ways_at(book, shut, state, earlier):
    """The list of how many ways there are with each head of a state that leads to no stand in shut."""
    hand, atom = state
    stand = stand_with(hand, atom)
    heads = [head for head in heads_of_stand(book, stand) if not leads_into(shut, stand, head)]
    return [ways_with(book, hand, head, earlier) for head in heads]


def check_rows(book, rows, shut):
    """Each row has the number that follows from the rows ahead of it."""
    known = {stand: True for stand in shut}
    earlier = {}
    for k, row in enumerate(rows):
        if not is_count_row(row):
            raise InvalidPaper("row", k)
        ways = ways_at(book, known, row[0], earlier)
        if None in ways or sum(ways) != row[1]:
            raise InvalidPaper("row", k)
        earlier[row[0]] = row[1]


def check_just(book, wish, number, rows, shut):
    """The paper shows that there are just so many."""
    check_stands(shut)
    check_shut(book, shut)
    check_rows(book, rows, shut)
    last = ((hand_with((), wish), end_in(wish)), number)
    shown_by_rows = len(rows) > 0 and rows[-1] == last
    if not shown_by_rows and (number > 0 or stand_of_wish(wish) not in shut):
        raise InvalidPaper("first", -1)


def lets_count(book, wish, thing):
    """The number that a count paper shows, None for endlessly many; InvalidPaper if it does not."""
    check_wish(book, wish)
    if not is_row(thing, 4):
        raise InvalidPaper("shape", -1)
    word, first, second, third = thing
    if word == "endless":
        check_repeat(spots_of(book, wish, first), second, third)
        return None
    if word != "just" or not is_number(first) or not isinstance(second, tuple) or not isinstance(third, tuple):
        raise InvalidPaper("shape", -1)
    check_just(book, wish, first, second, third)
    return first
