"""Rings: the least lots of people who keep somebody waiting."""

from leavelots.basics import are_unlike, names_of
from leavelots.lots import hull, who_can_leave
from leavelots.reasons import reason_bits


def rings(room):
    """The ascending tuple of all pairs (x, ring)."""
    parts = {}
    for reason, one in reason_bits(room).items():
        parts.setdefault(one, []).append(reason ^ one)
    # Somebody waits just as long as one of each reason stays.
    found = [(one, ring) for one in parts for ring in least_meeting(parts[one])]
    return tuple(sorted([(names_of(room.names, one)[0], names_of(room.names, ring)) for one, ring in found]))


def least_meeting(parts):
    """The least lots that meet all of some lots, all as integers."""
    found = [0]
    for part in parts:
        meeting = [lot for lot in found if lot & part]
        wider = [lot | one for lot in found if not lot & part for one in ones_of(part)]
        found = meeting + [lot for lot in wider if not has_one_of(lot, meeting)]
    return found


def ones_of(bits):
    """The single bits of an integer."""
    return [1 << at for at in range(bits.bit_length()) if (bits >> at) & 1]


def has_one_of(bits, lots):
    """Whether one of some lots lies within a lot, all as integers."""
    return any([bits & lot == lot for lot in lots])


def is_free(room, value):
    """Whether any value is a sequence of unlike names that can leave in any order among themselves."""
    if not are_unlike(value):
        return False
    can_leave = who_can_leave(room)
    if not all([name in can_leave for name in value]):
        return False
    return not any([name in hull(room, [other for other in value if other != name]) for name in value])
