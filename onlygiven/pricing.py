"""What makers of a wish cost at least."""

from onlygiven.markets import Market
from onlygiven.outlooks import made_outlook
from onlygiven.prices import check_prices


def market_for(book, wish, prices):
    """The market of any three values, if they are as stated."""
    check_prices(book, wish, prices)
    return Market(made_outlook(book, wish), prices)


def least_price(book, wish, prices):
    """The least price of a maker of the wish."""
    return market_for(book, wish, prices).least_total()


def cheapest_maker(book, wish, prices):
    """A maker with the least price."""
    return market_for(book, wish, prices).cheapest()


def price_paper(book, wish, prices):
    """A paper that shows what the least price is: a maker that has it, and a number table."""
    market = market_for(book, wish, prices)
    return (market.cheapest(), tuple(market.price_rows()))
