"""What names cost, and what heads at a stand add to a price."""

from onlygiven.bookchanges import has_name
from onlygiven.kinds import is_number, is_row, names_of
from onlygiven.outlooks import check_wish
from onlygiven.usable import check_usable


def are_prices(book, thing):
    """Whether any value has a number for each of some names of the book."""
    if not isinstance(thing, tuple):
        return False
    if not all([is_row(pair, 2) and has_name(book, pair[0]) and is_number(pair[1]) for pair in thing]):
        return False
    return len(set(names_of(thing))) == len(thing)


def check_prices(book, wish, prices):
    """The parameters of all that is asked about prices."""
    check_wish(book, wish)
    check_usable(are_prices(book, prices), "prices")


def price_of_head(prices, head):
    """What a name or a variable costs."""
    return dict(prices).get(head, 0)


def fees_of(book, prices):
    """For each kind of a name the least price of the names of this kind."""
    fees = {}
    for name, kind in book:
        price = price_of_head(prices, name)
        fees[kind] = min(price, fees.get(kind, price))
    return fees


def added_price(fees, stand, kind):
    """What a head of this kind adds at a stand at least, where a variable costs nothing."""
    return min(0, fees.get(kind, 0)) if kind in stand[0] else fees[kind]
