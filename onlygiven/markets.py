"""What makers cost at least, if heads have prices."""

from onlygiven.goals import heads_for, maker_by
from onlygiven.prices import added_price, fees_of, price_of_head
from onlygiven.stands import least_values, stand_with


def cost_with(price, below):
    """The cost of a maker: its price, and then its size. price is that of its head, below has the costs behind it."""
    return (price + sum([cost[0] for cost in below]), 1 + sum([cost[1] for cost in below]))


def costs_behind(steps, stand, least):
    """For each head all of whose parts can be made the list of the least costs of these."""
    return {
        head: [least[below] for below in stands]
        for head, stands in steps[stand].items() if all([below in least for below in stands])
    }


def costs_at(steps, fees, stand, least):
    """For each head all of whose parts can be made the least cost of a maker with this head."""
    behind = costs_behind(steps, stand, least)
    return {head: cost_with(added_price(fees, stand, head), behind[head]) for head in behind}


class Market:
    """The least costs of makers at all stands of makers of a wish, which has some.

    Of makers with equal prices the lesser one costs less here: so a cheapest maker has no needless rounds that are
    free. Prices may be below 0, if no rounds are.
    """

    def __init__(self, outlook, prices):
        fees = fees_of(outlook.book, prices)
        steps = outlook.made_steps()
        self.outlook = outlook
        self.prices = prices
        self.costs = least_values(steps, lambda stand, least: costs_at(steps, fees, stand, least))

    def least_total(self):
        """The least price of a maker of the wish."""
        return self.costs[self.outlook.first][0]

    def price_rows(self):
        """The rows of a number table: each of these stands with its least price, each one without makers with None."""
        known = list(self.costs) + [stand for stand in self.outlook.steps if stand not in self.outlook.least]
        return [(stand, self.costs[stand][0] if stand in self.costs else None) for stand in sorted(known)]

    def cheapest_head(self, goal):
        """The head of a maker of the least cost, with its kind."""
        behind = costs_behind(self.outlook.steps, stand_with(goal[1], goal[2]), self.costs)
        heads = [entry for entry in heads_for(self.outlook, goal) if entry[1] in behind]
        return min(heads, key=lambda entry: cost_with(price_of_head(self.prices, entry[0]), behind[entry[1]]))

    def cheapest(self):
        return maker_by(self.outlook, lambda goal: self.cheapest_head(goal))
