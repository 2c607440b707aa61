"""Prices: the best order where leaving early costs more."""

from leavelots.basics import is_int, is_sequence
from leavelots.errors import InvalidPrices
from leavelots.lots import may, who_can_leave
from leavelots.orders import check_order


def check_prices(room, prices):
    """InvalidPrices if any value is no dict with the prices of all who can leave."""
    if not isinstance(prices, dict):
        raise InvalidPrices(None)
    names = who_can_leave(room)
    for name in names:
        if not is_falling(prices.get(name), len(names)):
            raise InvalidPrices(name)


def is_falling(value, many):
    """Whether any value is a sequence of so many integers that never rise."""
    if not is_sequence(value) or len(value) != many or not all([is_int(price) for price in value]):
        return False
    return all([value[at] >= value[at + 1] for at in range(many - 1)])


def worst(room, prices, order):
    """The greatest price that is paid in an order; None if nobody can leave."""
    check_prices(room, prices)
    check_order(room, order)
    return max([prices[name][at] for at, name in enumerate(order)], default=None)


def best(room, prices):
    """Some order whose worst price is least."""
    check_prices(room, prices)
    order = []
    for at in range(len(who_can_leave(room))):
        # Whoever leaves later instead pays no more then, so the cheapest one now is never wrong.
        order.append(min([(prices[name][at], name) for name in may(room, order)])[1])
    return tuple(order)


def least_worst(room, prices):
    """The least worst price of all orders; None if nobody can leave."""
    return worst(room, prices, best(room, prices))
