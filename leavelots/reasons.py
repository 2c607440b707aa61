"""Reasons: the least lots that can be gone with somebody in them, and the orders that tell a room."""

from leavelots.basics import are_unlike, is_sequence, lot_of, names_of
from leavelots.errors import InvalidOrder
from leavelots.lots import leavers, lots_after, others
from leavelots.orders import is_order
from leavelots.rooms import Room
from leavelots.rules import Rule


def reasons(room):
    """The ascending tuple of all pairs (x, reason)."""
    found = reason_bits(room)
    return tuple(sorted([(names_of(room.names, found[lot])[0], names_of(room.names, lot)) for lot in found]))


def reason_bits(room):
    """The reasons as integers, small ones first, each with the bit of the one whose reason it is."""
    before = {}
    for gone, after in lots_after(room).items():
        for lot in after:
            before.setdefault(lot, []).append(gone)
    # If more than one of a lot can be its last, it is no least one: for each of them it could do without another one.
    return {lot: lot ^ before[lot][0] for lot in before if len(before[lot]) == 1}


def fewest(room):
    """Some tuple of the fewest orders that tell the room."""
    return tuple([order_through(room, chain) for chain in chains(wider_ones(room))])


def order_through(room, chain):
    """Some order that begins with each lot of a chain, in which each lies within the next one."""
    order = []
    for bits in chain:
        order = leavers(room, others(room, names_of(room.names, bits)), order)
    return tuple(leavers(room, (), order))


def apart(room):
    """Some tuple of as many reasons, none of which lies within another one."""
    wider = wider_ones(room)
    below = links(wider)
    followed = list(below.values())
    tops = [lot for lot in wider if lot not in followed]
    # Koenig: with the links all as they are, what can be reached from the tops has one such reason of each chain.
    reached = search(wider, below, tops)[0]
    found = tops + [below[lot] for lot in reached]
    return tuple(sorted([names_of(room.names, lot) for lot in found if lot not in reached]))


def wider_ones(room):
    """For each reason the reasons that it lies within, all as integers, small ones first."""
    found = list(reason_bits(room))
    return {lot: [other for other in found if other != lot and other & lot == lot] for lot in found}


def chains(wider):
    """All reasons in the fewest chains in which each lies within the next one."""
    # Dilworth: a chain ends where a reason has no link to a wider one, so the most links make the fewest chains.
    below = links(wider)
    ends = {}
    for lot in wider:
        # The one below is narrower, so its chain is there already.
        chain = ends.pop(below[lot]) if lot in below else []
        ends[lot] = [*chain, lot]
    return list(ends.values())


def links(wider):
    """As many links as can be: for a reason one within it, which is linked to no other one."""
    below = {}
    for lot in wider:
        reached, end = search(wider, below, [lot])
        # Each on the way back is linked anew, to the one from which it was reached.
        while end is not None:
            narrower, through = reached[end]
            below[end] = narrower
            end = through
    return below


def search(wider, below, starts):
    """The lots that get reached from some by steps to a wider one and along its link to the one below.

    Each with the one from which it was reached and the one whose link led there; and the one where the search
    ended, because it has no link yet, if it came to one.
    """
    reached = {}
    waiting = [(lot, None) for lot in starts]
    while waiting:
        lot, through = waiting.pop()
        for other in wider[lot]:
            if other not in reached:
                reached[other] = (lot, through)
                if other not in below:
                    return reached, other
                waiting.append((below[other], other))
    return reached, None


def tells(room, orders):
    """Whether a sequence of orders of the room tells it."""
    if not is_sequence(orders):
        raise InvalidOrder(0)
    for at, order in enumerate(orders):
        if not is_order(room, order):
            raise InvalidOrder(at)
    # Other lots are unions of reasons; a reason is no union of others, so some order must begin with it.
    return all([begins_one(reason, orders) for name, reason in reasons(room)])


def begins_one(lot, orders):
    """Whether one of the orders begins with a lot."""
    return any([lot_of(order[:len(lot)]) == lot for order in orders])


def told_by(orders):
    """Some room, with just the names of the orders, that they tell."""
    if not is_sequence(orders):
        raise InvalidOrder(0)
    for at, order in enumerate(orders):
        if not are_unlike(order) or lot_of(order) != lot_of(orders[0]):
            raise InvalidOrder(at)
    pairs = sorted({(name, lot_of(order[:at])) for order in orders for at, name in enumerate(order)})
    return Room([Rule(name, gone) for name, gone in pairs])
