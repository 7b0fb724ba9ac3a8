"""What makers of a wish cost at least."""

from onlygiven.errors import NotMade
from onlygiven.goals import heads_for, maker_by
from onlygiven.outlooks import Outlook
from onlygiven.prices import added_price, check_prices, fees_of, price_of_head
from onlygiven.stands import least_values, stand_with


def cost_with(price, below):
    """The cost of a maker: its price, and then its size. price is that of its head, below has the costs behind it."""
    return (price + sum([cost[0] for cost in below]), 1 + sum([cost[1] for cost in below]))


def costs_behind(steps, stand, least):
    """For each head all of whose parts can be made the list of the least costs of these."""
    return {
        head: [least[below] for below in stands]
        for head, stands in steps[stand].items() if all([below in least for below in stands])
    }


def costs_at(steps, fees, stand, least):
    """For each head all of whose parts can be made the least cost of a maker with this head."""
    behind = costs_behind(steps, stand, least)
    return {head: cost_with(added_price(fees, stand, head), behind[head]) for head in behind}


class Market:
    """The least costs of makers at all stands to which a wish leads.

    Of makers with equal prices the lesser one costs less here: so a cheapest maker has no needless rounds that are
    free.
    """

    def __init__(self, book, wish, prices):
        outlook = Outlook(book, wish)
        if not outlook.has_maker():
            raise NotMade(wish)
        fees = fees_of(book, prices)
        self.outlook = outlook
        self.prices = prices
        self.costs = least_values(outlook.steps, lambda stand, least: costs_at(outlook.steps, fees, stand, least))

    def price_at(self, stand):
        """The least price, None if nothing can be made there."""
        return self.costs[stand][0] if stand in self.costs else None

    def cheapest_head(self, goal):
        """The head of a maker of the least cost, with its kind."""
        behind = costs_behind(self.outlook.steps, stand_with(goal[1], goal[2]), self.costs)
        heads = [entry for entry in heads_for(self.outlook, goal) if entry[1] in behind]
        return min(heads, key=lambda entry: cost_with(price_of_head(self.prices, entry[0]), behind[entry[1]]))

    def cheapest(self):
        return maker_by(self.outlook, lambda goal: self.cheapest_head(goal))


def market_for(book, wish, prices):
    """The market of any three values, if they are as stated."""
    check_prices(book, wish, prices)
    return Market(book, wish, prices)


def least_price(book, wish, prices):
    """The least price of a maker of the wish."""
    market = market_for(book, wish, prices)
    return market.price_at(market.outlook.first)


def cheapest_maker(book, wish, prices):
    """A maker with the least price."""
    return market_for(book, wish, prices).cheapest()


def price_paper(book, wish, prices):
    """A paper that shows what the least price is: a maker that has it, and a row for each stand."""
    market = market_for(book, wish, prices)
    rows = tuple([(stand, market.price_at(stand)) for stand in sorted(market.outlook.steps)])
    return (market.cheapest(), rows)
