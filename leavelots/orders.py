"""Orders: in which all who can ever leave do leave."""

from leavelots.basics import bits_of, is_index, is_sequence, names_of
from leavelots.errors import InvalidOrder, NoOrder
from leavelots.lots import hull, lots_after, may, stuck, who_can_leave


def is_order(room, value):
    """Whether any value is a sequence that is an order of the room."""
    return is_sequence(value) and wrong_at(room, value) is None


def wrong_at(room, order):
    """Where a sequence is no order: the index of who may not leave then, or its length; None if it is one."""
    gone = []
    for at, name in enumerate(order):
        if name not in may(room, gone):
            return at
        gone.append(name)
    # Whoever can still leave in the end is somebody whom the order lacks.
    return len(gone) if may(room, gone) else None


def check_order(room, order):
    """InvalidOrder if any value is no order of the room."""
    if not is_sequence(order):
        raise InvalidOrder(0)
    at = wrong_at(room, order)
    if at is not None:
        raise InvalidOrder(at)


def many(room):
    """The number of orders."""
    return orders_on(lots_after(room))[0]


def orders_on(after):
    """For each lot that can be gone, the number of orders in which the others leave then."""
    counts = {}
    # Those with more names first: what leads on from a lot leads on through one of the lots after it.
    for gone in reversed(list(after)):
        counts[gone] = sum([counts[lot] for lot in after[gone]]) if after[gone] else 1
    return counts


def order_at(room, at):
    """The order with a number, in ascending order."""
    after = lots_after(room)
    counts = orders_on(after)
    if not is_index(at, counts[0]):
        raise NoOrder(at)
    order = []
    gone = 0
    while after[gone]:
        lot, at = lot_at(after[gone], counts, at)
        order.extend(names_of(room.names, lot ^ gone))
        gone = lot
    return tuple(order)


def lot_at(after, counts, at):
    """The lot of these through which the order with a number goes, and its number among those through this lot."""
    for lot in after[:-1]:
        if at < counts[lot]:
            return lot, at
        at -= counts[lot]
    return after[-1], at


def number_of(room, order):
    """The number of an order."""
    check_order(room, order)
    after = lots_after(room)
    counts = orders_on(after)
    number = 0
    gone = 0
    for name in order:
        lot = gone | bits_of(room.names, [name])
        # All orders that go on with a smaller name come first.
        number += sum([counts[other] for other in after[gone] if other < lot])
        gone = lot
    return number


def ahead(room):
    """The ascending pairs (a, b) of unlike ones who can leave, such that a is ahead of b in all orders."""
    staying = stuck(room)
    return tuple([(first, second) for first in who_can_leave(room) for second in hull(room, [first])
                  if second != first and second not in staying])


def last(room):
    """The lot of those who are the last in some order."""
    # Nobody else waits for the last one.
    alone = len(stuck(room)) + 1
    return tuple([name for name in who_can_leave(room) if len(hull(room, [name])) == alone])


def swaps(room, order):
    """The indexes at which the name and the next one can change places, so that it is an order again."""
    check_order(room, order)
    # Who may leave one place earlier keeps nobody from leaving one place later.
    return tuple([at for at in range(len(order) - 1) if order[at + 1] in may(room, order[:at])])
