"""The checker of use papers."""

from onlygiven.errors import InvalidPaper
from onlygiven.kinds import is_maker, is_row
from onlygiven.makerwalks import spots_of
from onlygiven.numbertables import are_table_rows, check_table_stands, check_table_steps
from onlygiven.repeatchecker import check_repeat
from onlygiven.stands import stand_of_wish
from onlygiven.uses import check_use


def check_use_between(spots, name, place, deeper):
    """The name is the head of a place that is place or below it, but neither deeper nor below that."""
    for goal, part in spots:
        at = goal[0]
        if part[0] == name and at[:len(place)] == place and at[:len(deeper)] != deeper:
            return
    raise InvalidPaper("use", -1)


def check_most(book, wish, name, spots, rows):
    """How often the maker of these spots uses the name, if the rows show that none uses it more often."""
    check_table_stands(book, wish, rows)
    numbers = dict(rows)
    number = numbers.get(stand_of_wish(wish))
    if number is None:
        raise InvalidPaper("first", -1)
    used = dict(book)[name]
    check_table_steps(
        book, numbers, lambda stand, head: 1 if head == used else 0, lambda number, total: number >= total)
    if number != len([part for _, part in spots if part[0] == name]):
        raise InvalidPaper("most", -1)
    return number


def is_most_form(thing):
    return is_row(thing, 3) and thing[0] == "most" and is_maker(thing[1]) and are_table_rows(thing[2])


def lets_uses(book, wish, name, thing):
    """The number that a use paper shows, None if there is no greatest; InvalidPaper if it does not."""
    check_use(book, wish, name)
    if is_most_form(thing):
        return check_most(book, wish, name, spots_of(book, wish, thing[1]), thing[2])
    if not is_row(thing, 4) or thing[0] != "endless":
        raise InvalidPaper("shape", -1)
    _, maker, place, deeper = thing
    spots = spots_of(book, wish, maker)
    check_repeat(spots, place, deeper)
    check_use_between(spots, name, place, deeper)
    return None
