"""Point [2] and the interface: what holds for all objects and functions."""

import ast
import inspect
import unittest
from pathlib import Path

import leavelots
from leavelots import errors, lots, orders, prices, reasons, rings, rooms, rules
from leavelots.rooms import Room
from leavelots.rules import Rule
from tests.values import rooms_to_try

FUNCTIONS = {
    lots: {
        "may": ["room", "gone"],
        "lots": ["room"],
        "can_be_gone": ["room", "value"],
        "stuck": ["room"],
        "hull": ["room", "staying"],
        "bar": ["room"],
        "bar_holds": ["room", "value"],
    },
    orders: {
        "is_order": ["room", "value"],
        "many": ["room"],
        "order_at": ["room", "at"],
        "number_of": ["room", "order"],
        "ahead": ["room"],
        "last": ["room"],
        "swaps": ["room", "order"],
    },
    reasons: {
        "reasons": ["room"],
        "fewest": ["room"],
        "apart": ["room"],
        "tells": ["room", "orders"],
        "told_by": ["orders"],
    },
    rings: {"rings": ["room"], "is_free": ["room", "value"]},
    prices: {
        "worst": ["room", "prices", "order"],
        "best": ["room", "prices"],
        "least_worst": ["room", "prices"],
    },
}


def falling(room):
    """Prices for all of a room who can leave."""
    names = [name for name in room.names if name not in lots.stuck(room)]
    return {name: [9 * at - place for place in range(len(names))] for at, name in enumerate(names)}


def answers(room):
    """What all functions tell of a room."""
    some = list(room.names[:2])
    told = [lots.may(room, some), lots.lots(room), lots.can_be_gone(room, some), lots.stuck(room)]
    told += [lots.hull(room, some), lots.bar(room), lots.bar_holds(room, tuple(some)), len(room), str(room)]
    told += [room.names, room + room, [(room[at], room.without(at)) for at in range(len(room))]]
    return told + later_answers(room)


def later_answers(room):
    """The same for the modules from `orders` to `prices`."""
    order = orders.order_at(room, orders.many(room) - 1)
    costs = falling(room)
    told = [orders.is_order(room, order), orders.number_of(room, order), orders.ahead(room), orders.last(room)]
    told += [orders.swaps(room, order), reasons.reasons(room), reasons.fewest(room), reasons.apart(room)]
    told += [reasons.tells(room, [order]), reasons.told_by([order, order[::-1]]), rings.rings(room)]
    told += [rings.is_free(room, room.names[:2]), prices.worst(room, costs, order), prices.best(room, costs)]
    return [order, *told, prices.least_worst(room, costs)]


def wrong_calls(room):
    """Calls that raise an error."""
    return (
        lambda: room[-1], lambda: room.without(len(room)), lambda: lots.hull(room, [None]),
        lambda: orders.order_at(room, -1), lambda: orders.number_of(room, None), lambda: orders.swaps(room, ["if"]),
        lambda: reasons.tells(room, [None]), lambda: reasons.told_by([room]), lambda: prices.best(room, None),
        lambda: prices.worst(room, falling(room), 0), lambda: prices.least_worst(room, []),
    )


class Results(unittest.TestCase):
    def test_equal_when_asked_again(self):
        some = rooms_to_try()
        first = [answers(room) for room in some]
        again = [answers(room) for room in reversed(some)]
        self.assertEqual(first, again[::-1])

    def test_equal_for_equal_rooms(self):
        for room in rooms_to_try():
            self.assertEqual(answers(Room.read(str(room))), answers(room))

    def test_rooms_and_rules_never_change(self):
        for room in rooms_to_try():
            text, names, given, rules_told = str(room), room.names, room.rules, [str(rule) for rule in room.rules]
            answers(room)
            for wrong in wrong_calls(room):
                with self.assertRaises(errors.LeaveError):
                    wrong()
            self.assertEqual((str(room), room.names, room.rules), (text, names, given))
            self.assertEqual([str(rule) for rule in given], rules_told)

    def test_defaults_are_not_shared(self):
        Rule("a", ["b"])
        Room([Rule("a")])
        self.assertEqual((Rule("a").gone, Room().rules, Room().names), ((), (), ()))

    def test_sequences_that_are_returned_are_tuples(self):
        room = Room.read("a if b\nb if a\nc\nd if c")
        told = [lots.may(room, ["c"]), lots.lots(room), lots.stuck(room), lots.hull(room, ["c"]), lots.bar(room)]
        told += [room.rules, room.names, room.rules[0].gone, *lots.lots(room)]
        told += [lots.hull(Room(), []), lots.may(Room(), [])]
        told += [orders.order_at(room, 0), orders.ahead(room), orders.ahead(room)[0], orders.last(room)]
        told += [orders.swaps(room, ["c", "d"]), reasons.reasons(room), *reasons.reasons(room), reasons.fewest(room)]
        told += [*reasons.fewest(room), reasons.apart(room), *reasons.apart(room), reasons.reasons(room)[0][1]]
        told += [rings.rings(room), rings.rings(room)[0], rings.rings(room)[0][1], prices.best(room, falling(room))]
        told += [reasons.told_by([["c", "d"]]).rules, orders.swaps(Room(), []), prices.best(Room(), {})]
        for thing in told:
            self.assertIsInstance(thing, tuple)

    def test_what_was_returned_may_be_passed_on(self):
        room = Room.read("a\nb if a\nc if b\nd if e")
        self.assertEqual(lots.may(room, lots.lots(room)[1]), ("b",))
        self.assertEqual(lots.hull(room, lots.stuck(room)), ("d", "e"))
        self.assertIs(lots.can_be_gone(room, lots.lots(room)[-1]), True)
        self.assertEqual(Room(room.rules), room)
        self.assertEqual(Rule("x", room.names).gone, room.names)
        self.assertEqual(orders.number_of(room, orders.order_at(room, 0)), 0)
        self.assertIs(reasons.tells(room, reasons.fewest(room)), True)
        self.assertEqual(lots.lots(reasons.told_by(reasons.fewest(room))), lots.lots(room))
        self.assertIs(lots.can_be_gone(room, reasons.apart(room)[0]), True)
        self.assertIs(rings.is_free(room, rings.rings(room)[0][1]), True)
        self.assertIs(orders.is_order(room, prices.best(room, falling(room))), True)

    def test_large_rooms_that_were_returned(self):
        some = [Room.read("a\nb\nc\nd\ne\nf\ng"), Room.read("h\ni if h\nj if h\nk if i\nk if j\nl\nm\nn if z")]
        room = some[0] + some[1] + some[0] + some[1]
        product = len(lots.lots(some[0])) * len(lots.lots(some[1]))
        self.assertEqual((len(room.names), len(room), len(lots.lots(room))), (15, 30, product))
        self.assertEqual(len(reasons.fewest(room)), sum(len(reasons.apart(part)) for part in some))
        self.assertIs(reasons.tells(room, reasons.fewest(room)), True)
        self.assertEqual(lots.lots(reasons.told_by(reasons.fewest(room))), lots.lots(room))
        self.assertEqual(rings.rings(room), rings.rings(some[1]))
        last_number = orders.many(room) - 1
        self.assertEqual(orders.number_of(room, orders.order_at(room, last_number)), last_number)


class Interface(unittest.TestCase):
    def test_functions_are_defined_in_their_module(self):
        for module, functions in FUNCTIONS.items():
            for word, parameters in functions.items():
                with self.subTest(word):
                    function = getattr(module, word)
                    self.assertTrue(inspect.isfunction(function))
                    self.assertEqual(function.__module__, module.__name__)
                    self.assertEqual(list(inspect.signature(function).parameters), parameters)

    def test_classes_are_defined_in_their_module(self):
        for cls, module in ((Rule, rules), (Room, rooms), (errors.LeaveError, errors), (errors.Refused, errors)):
            self.assertEqual(cls.__module__, module.__name__)

    def test_methods_stand_in_the_class_itself(self):
        for word in ("__eq__", "__str__"):
            self.assertIn(word, vars(Rule))
        for word in ("without", "read", "__len__", "__getitem__", "__add__", "__eq__", "__str__"):
            self.assertIn(word, vars(Room))
        self.assertIsInstance(vars(Room)["read"], classmethod)

    def test_package_file_is_but_a_docstring(self):
        tree = ast.parse(Path(leavelots.__file__).read_text())
        self.assertEqual(len(tree.body), 1)
        self.assertTrue(ast.get_docstring(tree))


if __name__ == "__main__":
    unittest.main()
