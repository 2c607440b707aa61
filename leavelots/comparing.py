"""Comparing rooms, and mending them."""

from leavelots.errors import InvalidName
from leavelots.lots import can_be_gone, is_fulfilled, leavers, others
from leavelots.reasons import reasons
from leavelots.rooms import Room
from leavelots.rules import Rule


def alike(p, q):
    """Whether the same lots can be gone in two rooms."""
    return no_freer(p, q) and no_freer(q, p)


def no_freer(p, q):
    """Whether all lots that can be gone in p can be gone in q."""
    # All lots are unions of reasons, and if two lots can be gone, so can both together.
    return not freer_reasons(p, q)


def freer_reasons(p, q):
    """The reasons in p that cannot be gone in q."""
    return [reason for name, reason in reasons(p) if not can_be_gone(q, reason)]


def parting(p, q):
    """Some shortest tuple of names who can leave in this order in one of both rooms, but not in the other, or None."""
    # If somebody can leave behind others in one room alone, a reason for it among them cannot be gone in the other.
    return min(freer_orders(p, q) + freer_orders(q, p), key=len, default=None)


def freer_orders(p, q):
    """For each reason in p that cannot be gone in q, its names as they can leave in p."""
    return [tuple(leavers(p, others(p, reason))) for reason in freer_reasons(p, q)]


def needless(room):
    """The ascending tuple of the indexes of rules without which, each alone, the room is alike."""
    # Without a rule, somebody's reason is lost only if it fulfils no other rule for this one.
    ways = [ways_out(room, name, reason) for name, reason in reasons(room)]
    return tuple([at for at in range(len(room)) if [at] not in ways])


def ways_out(room, name, gone):
    """The indexes of the rules for somebody that are fulfilled when some are gone."""
    return [at for at, rule in enumerate(room.rules) if rule.name == name and is_fulfilled(rule, gone)]


def plain(room):
    """The room with a rule for each reason: somebody may leave once the others of it are gone."""
    return Room([Rule(name, [other for other in reason if other != name]) for name, reason in reasons(room)])


def beside(p, q):
    """Some room with the people of both, who do not heed one another."""
    for name in p.names:
        if name in q.names:
            raise InvalidName(name)
    return p + q
