"""What the tests share: any values, rooms to try, and a slow but plain account of how people leave."""

from itertools import chain, combinations
from random import Random

from leavelots.desk import Desk
from leavelots.errors import InvalidName
from leavelots.led import Led
from leavelots.rooms import Room
from leavelots.rules import Rule


def nested(thing, deep, kind=list):
    """The thing in a sequence in a sequence .., so many deep."""
    for _ in range(deep):
        thing = kind([thing])
    return thing


def plain_values():
    """Any values that are no sequences."""
    numbers = [0, 1, -1, 7, 10 ** 9, -10 ** 9, True, False, None]
    strings = ["", "a", "b", "zz", "abc", "abcd", "if", "A", "Ab", "a1", "1", "a b", " a", "a ", "a\n", "\n", "-"]
    objects = [Rule("a"), Rule("b", ["a"]), Room(), Room.read("a\nb if a"), InvalidName("a"), Led(Room()), Desk()]
    return numbers + strings + objects


def any_values():
    """Any values as the document describes them, nested at most eight deep."""
    plain = plain_values()
    short = [[], (), ["a"], ("a",), ("a", "b"), ["b", "a"], ("a", "a"), ["a", "if"], ("a", None), [[], ()]]
    wrapped = [[thing] for thing in plain] + [(thing,) for thing in plain]
    mixed = [["a", thing] for thing in plain] + [(thing, "b") for thing in plain]
    deep = [nested("a", many, kind) for many in (2, 3, 8) for kind in (list, tuple)] + [nested(Rule("a"), 8)]
    return plain + short + wrapped + mixed + deep + [[Rule("a"), ["a"]], (Room(), Rule("a"))]


def is_sequence(value):
    return isinstance(value, (list, tuple))


def is_name(value):
    """Tried against a list of what is allowed, not letter by letter as a program would."""
    if not isinstance(value, str) or value == "if":
        return False
    return len(value) in (1, 2, 3) and set(value) <= set("abcdefghijklmnopqrstuvwxyz")


def subsets(things):
    """All parts of a sequence, as tuples in its order."""
    return chain.from_iterable(combinations(things, many) for many in range(len(things) + 1))


def rows_of(room):
    """The rules of a room as pairs of a name and a set."""
    return [(rule.name, set(rule.gone)) for rule in room.rules]


def slow_may(room, gone):
    return tuple(sorted({name for name, wanted in rows_of(room) if name not in gone and wanted <= set(gone)}))


def slow_lots(room):
    """All lots that can be gone, found by going through them one name at a time."""
    found, waiting = {()}, [()]
    while waiting:
        gone = waiting.pop()
        for name in slow_may(room, gone):
            after = tuple(sorted(gone + (name,)))
            if after not in found:
                found.add(after)
                waiting.append(after)
    return tuple(sorted(found))


def slow_hull(room, staying):
    """The names that are in no lot that can be gone without anybody of `staying`."""
    can_leave = {name for lot in slow_lots(room) if not set(lot) & set(staying) for name in lot}
    return tuple(sorted(set(room.names) - can_leave))


def slow_bar_holds(room, lot):
    return bool(lot) and all(wanted & set(lot) for name, wanted in rows_of(room) if name in lot)


def slow_stuck(room):
    return slow_hull(room, ())


def slow_orders(room):
    """All orders, ascending, by letting people leave in every way."""
    found, waiting = [], [()]
    while waiting:
        order = waiting.pop()
        free = slow_may(room, order)
        if not free:
            found.append(order)
        waiting += [order + (name,) for name in reversed(free)]
    return found


def slow_number_wrong(room, order):
    """What `InvalidOrder` tells of something that may be an order, None if it is one."""
    if not is_sequence(order):
        return 0
    for at, name in enumerate(order):
        if not isinstance(name, str) or name not in slow_may(room, order[:at]):
            return at
    return len(order) if slow_may(room, order) else None


def slow_reasons(room):
    """All pairs (x, reason), by comparing all lots with one another."""
    found = []
    for name in room.names:
        having = [set(lot) for lot in slow_lots(room) if name in lot]
        found += [(name, tuple(sorted(lot))) for lot in having if not any(other < lot for other in having)]
    return tuple(sorted(found))


def slow_rings(room):
    """All pairs (x, ring), by trying all lots that could keep somebody waiting."""
    can_be_gone = [set(lot) for lot in slow_lots(room)]
    can_leave = sorted(set().union(*can_be_gone))
    found = []
    for name in can_leave:
        tried = [set(lot) for lot in subsets([other for other in can_leave if other != name])]
        keeping = [lot for lot in tried if not any(name in gone and not gone & lot for gone in can_be_gone)]
        found += [(name, tuple(sorted(lot))) for lot in keeping if not any(other < lot for other in keeping)]
    return tuple(sorted(found))


def slow_told(orders):
    """All unions of beginnings of orders, as ascending lots."""
    found = {frozenset()}
    for order in orders:
        beginnings = [frozenset(order[:at]) for at in range(len(order) + 1)]
        found = {lot | beginning for lot in found for beginning in beginnings}
    return tuple(sorted(tuple(sorted(lot)) for lot in found))


def random_order(random, room):
    """Some order of a room."""
    order = ()
    while free := slow_may(room, order):
        order += (random.choice(free),)
    return order


def random_room(random, names, many):
    """A room of some of these names with so many rules."""
    rules = []
    for _ in range(many):
        name = random.choice(names)
        others = [other for other in names if other != name]
        rules.append(Rule(name, random.sample(others, min(random.randrange(4), len(others)))))
    return Room(rules)


def strict_room(random, names, many):
    """The same with rules that want more, so that more are stuck."""
    rules = []
    for _ in range(many):
        name = random.choice(names)
        others = [other for other in names if other != name]
        rules.append(Rule(name, random.sample(others, random.randint(1, min(3, len(others))))))
    return Room(rules + [Rule(names[0])])


def rooms_where_nobody_can_leave():
    return [Room.read(text) for text in ("", "a if b", "a if b\nb if a", "a if z\nb if a\nc if a b")]


def rooms_to_try():
    """Rooms by hand and by lot, up to 7 names and 30 rules; the same ones in each run."""
    texts = [
        "", "a", "a\na", "a if b", "a if b\nb if a", "a if b\nb if a\nc", "a\nb\nc if a\nc if b\nd if a b",
        "b if a\nc if b\nd if c\na", "a if z\nb", "a\na if b", "a\nb if a\nc if b x\nx if c\nd if c\nd if b",
        "a\nb if a\nb if c d\nc if b\nd if e\ne if d", "g if a b c d e f\na\nb\nc\nd\ne\nf",
        "zz\nabc if zz\nz if abc zz",
    ]
    random = Random(20)
    names = ["a", "b", "c", "ab", "abc", "z", "fi"]
    drawn = [random_room(random, names[:size], many) for size in range(2, 8) for many in (1, 3, 6, 9)]
    strict = [strict_room(random, names[:size], size + more) for size in range(3, 8) for more in (0, 3)]
    full = [random_room(random, names, 30), strict_room(random, names, 29)]
    return [Room.read(text) for text in texts] + drawn + strict + full
