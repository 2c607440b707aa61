"""Lots: who may leave, which lots can be gone, and who can never leave."""

from leavelots.basics import are_names, is_lot, lot_of
from leavelots.errors import InvalidName


def may(room, gone):
    """The lot of those who may leave when just these are gone."""
    return lot_of([rule.name for rule in room.rules if rule.name not in gone and is_fulfilled(rule, gone)])


def is_fulfilled(rule, gone):
    """Whether all whom a rule wants are gone."""
    return all([name in gone for name in rule.gone])


def lots(room):
    """The ascending tuple of all lots that can be gone."""
    # A lot is an integer here, one bit for each name: there may be many lots, and tuples are much slower.
    rules = [(bits_of(room, [rule.name]), bits_of(room, rule.gone)) for rule in room.rules]
    found = {0: True}
    waiting = [0]
    while waiting:
        gone = waiting.pop()
        for leaving, wanted in rules:
            after = gone | leaving
            if gone & wanted == wanted and after not in found:
                found[after] = True
                waiting.append(after)
    return tuple(sorted([names_of(room, bits) for bits in found]))


def bits_of(room, names):
    """The integer that has the bits of unlike names of the room."""
    return sum([1 << room.names.index(name) for name in names])


def names_of(room, bits):
    """The lot of the names whose bits an integer has."""
    return tuple([name for at, name in enumerate(room.names) if (bits >> at) & 1])


def can_be_gone(room, value):
    """Whether any value is a sequence of unlike names that can be gone."""
    if not are_names(value):
        return False
    others = [name for name in room.names if name not in value]
    # Nobody leaves twice: if a name comes twice, or nobody in the room has it, the lengths differ.
    return len(leavers(room, others)) == len(value)


def leavers(room, staying):
    """All who can leave as long as `staying` stay, in an order in which they can."""
    gone = []
    while True:
        free = [name for name in may(room, gone) if name not in staying]
        if not free:
            return gone
        # A fulfilled rule stays fulfilled, so all of them can go before the next look.
        gone.extend(free)


def stuck(room):
    """The lot of those who can never leave."""
    return hull(room, ())


def hull(room, staying):
    """The lot of those who cannot leave as long as all of `staying` stay, with these."""
    for name in staying:
        if name not in room.names:
            raise InvalidName(name)
    gone = leavers(room, staying)
    return tuple([name for name in room.names if name not in gone])


def bar(room):
    """None if all can leave, otherwise some lot that shows that not all can."""
    # Each rule for somebody stuck wants somebody stuck: else this one could leave in the end.
    return stuck(room) or None


def bar_holds(room, value):
    """Whether any value is a lot that shows that not all can leave."""
    if not is_lot(value) or len(value) == 0:
        return False
    if not all([name in room.names for name in value]):
        return False
    return all([wants_one_of(rule, value) for rule in room.rules if rule.name in value])


def wants_one_of(rule, lot):
    """Whether somebody of the lot must be gone for this rule."""
    return any([name in lot for name in rule.gone])
