"""The checker of price papers."""

from onlygiven.errors import InvalidPaper
from onlygiven.kinds import is_maker, is_row
from onlygiven.makerwalks import spots_of
from onlygiven.numbertables import are_table_rows, check_table_stands, check_table_steps
from onlygiven.prices import added_price, check_prices, fees_of, price_of_head
from onlygiven.stands import stand_of_wish


def lets_price(book, wish, prices, thing):
    """The price that a paper shows to be the least one; InvalidPaper if it does not."""
    check_prices(book, wish, prices)
    if not is_row(thing, 2) or not is_maker(thing[0]) or not are_table_rows(thing[1]):
        raise InvalidPaper("shape", -1)
    spots = spots_of(book, wish, thing[0])
    check_table_stands(book, wish, thing[1])
    numbers = dict(thing[1])
    price = numbers.get(stand_of_wish(wish))
    if price is None:
        raise InvalidPaper("first", -1)
    fees = fees_of(book, prices)
    check_table_steps(
        book, numbers, lambda stand, head: added_price(fees, stand, head), lambda number, total: number <= total)
    if price != sum([price_of_head(prices, part[0]) for _, part in spots]):
        raise InvalidPaper("price", -1)
    return price
