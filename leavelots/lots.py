"""Lots: who may leave, which lots can be gone, and who can never leave."""

from leavelots.basics import are_unlike, bits_of, is_lot, lot_of, names_of
from leavelots.errors import InvalidName


def may(room, gone):
    """The lot of those who may leave when just these are gone."""
    return lot_of([rule.name for rule in room.rules if rule.name not in gone and is_fulfilled(rule, gone)])


def is_fulfilled(rule, gone):
    """Whether all whom a rule wants are gone."""
    return all([name in gone for name in rule.gone])


def lots(room):
    """The ascending tuple of all lots that can be gone."""
    return tuple(sorted([names_of(room.names, bits) for bits in lots_after(room)]))


def lots_after(room):
    """For each lot that can be gone, small ones first, the lots with one more that can be gone, ascending."""
    # A lot is an integer here, one bit for each name: there may be many lots, and tuples are much slower.
    rules = [(bits_of(room.names, [rule.name]), bits_of(room.names, rule.gone)) for rule in room.rules]
    after = {}
    level = [0]
    while level:
        for gone in level:
            after[gone] = sorted({gone | one for one, wanted in rules if not gone & one and gone & wanted == wanted})
        level = sorted({bits for lot in level for bits in after[lot]})
    return after


def can_be_gone(room, value):
    """Whether any value is a sequence of unlike names that can be gone."""
    # Nobody leaves twice: if nobody in the room has one of the names, the lengths differ.
    return are_unlike(value) and len(leavers(room, others(room, value))) == len(value)


def others(room, names):
    """The lot of those of the room who are not among some names."""
    return tuple([name for name in room.names if name not in names])


def leavers(room, staying, gone=()):
    """`gone`, and behind them all who can leave then as long as `staying` stay, in an order in which they can."""
    order = list(gone)
    while True:
        free = [name for name in may(room, order) if name not in staying]
        if not free:
            return order
        # A fulfilled rule stays fulfilled, so all of them can go before the next look.
        order.extend(free)


def who_can_leave(room):
    """The lot of those who can ever leave."""
    return others(room, stuck(room))


def stuck(room):
    """The lot of those who can never leave."""
    return hull(room, ())


def hull(room, staying):
    """The lot of those who cannot leave as long as all of `staying` stay, with these."""
    for name in staying:
        if name not in room.names:
            raise InvalidName(name)
    return others(room, leavers(room, staying))


def bar(room):
    """None if all can leave, otherwise some lot that shows that not all can."""
    # Each rule for somebody stuck wants somebody stuck: else this one could leave in the end.
    return stuck(room) or None


def bar_holds(room, value):
    """Whether any value is a lot that shows that not all can leave."""
    if not is_lot(value) or len(value) == 0:
        return False
    if not all([name in room.names for name in value]):
        return False
    return all([wants_one_of(rule, value) for rule in room.rules if rule.name in value])


def wants_one_of(rule, lot):
    """Whether somebody of the lot must be gone for this rule."""
    return any([name in lot for name in rule.gone])
