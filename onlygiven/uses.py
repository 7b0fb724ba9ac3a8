"""How often a name can be used in the makers of a wish."""

from onlygiven.bookchanges import has_name
from onlygiven.goals import first_head, maker_by
from onlygiven.markets import Market
from onlygiven.outlooks import check_wish, made_outlook
from onlygiven.usable import check_usable
from onlygiven.userepeats import UseRepeats


def check_use(book, wish, name):
    """The parameters of all that is asked about uses."""
    check_wish(book, wish)
    check_usable(has_name(book, name), "name")


def market_of_uses(outlook, name):
    """The market in which most uses cost least: each lowers the price by one."""
    return Market(outlook, ((name, -1),))


def most_uses(book, wish, name):
    """The greatest number of uses of the name in a maker of the wish, None if there is no greatest."""
    check_use(book, wish, name)
    outlook = made_outlook(book, wish)
    if UseRepeats(outlook, name).are_there():
        return None
    return -market_of_uses(outlook, name).least_total()


def endless_paper(outlook, name, repeats):
    chosen, place, deeper, use = repeats.found()

    def head_for(goal):
        return (name, chosen[use]) if goal[0] == use else first_head(outlook, goal, chosen)

    return ("endless", maker_by(outlook, head_for), place, deeper)


def use_paper(book, wish, name):
    """A paper that shows what the greatest number of uses is, or that there is none."""
    check_use(book, wish, name)
    outlook = made_outlook(book, wish)
    repeats = UseRepeats(outlook, name)
    if repeats.are_there():
        return endless_paper(outlook, name, repeats)
    market = market_of_uses(outlook, name)
    rows = [(stand, None if price is None else -price) for stand, price in market.price_rows()]
    return ("most", market.cheapest(), tuple(rows))
