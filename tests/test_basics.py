"""Point [2] and the interface: what holds for all objects and functions."""

import ast
import inspect
import unittest
from pathlib import Path

import leavelots
from leavelots import comparing, desk, errors, kinds, led, lots, orders, prices, reasons, rings, rooms, rules
from leavelots.desk import Desk
from leavelots.led import Led
from leavelots.rooms import Room
from leavelots.rules import Rule
from tests.values import any_values, rooms_to_try

FUNCTIONS = {
    lots: {
        "may": ["room", "gone"],
        "lots": ["room"],
        "can_be_gone": ["room", "value"],
        "stuck": ["room"],
        "hull": ["room", "staying"],
        "bar": ["room"],
        "bar_holds": ["room", "value"],
    },
    orders: {
        "is_order": ["room", "value"],
        "many": ["room"],
        "order_at": ["room", "at"],
        "number_of": ["room", "order"],
        "ahead": ["room"],
        "last": ["room"],
        "swaps": ["room", "order"],
    },
    reasons: {
        "reasons": ["room"],
        "fewest": ["room"],
        "apart": ["room"],
        "tells": ["room", "orders"],
        "told_by": ["orders"],
    },
    rings: {"rings": ["room"], "is_free": ["room", "value"]},
    prices: {
        "worst": ["room", "prices", "order"],
        "best": ["room", "prices"],
        "least_worst": ["room", "prices"],
    },
    kinds: {"tree": ["edges"], "taken_down": ["edges"], "peeled": ["points"]},
    comparing: {
        "alike": ["p", "q"],
        "parting": ["p", "q"],
        "no_freer": ["p", "q"],
        "needless": ["room"],
        "plain": ["room"],
        "beside": ["p", "q"],
    },
}
METHODS = {
    Rule: {"__init__": ["self", "name", "gone"], "__eq__": None, "__str__": None},
    Room: {
        "__init__": ["self", "rules"],
        "without": ["self", "at"],
        "__len__": None,
        "__getitem__": None,
        "__add__": None,
        "__eq__": None,
        "__str__": None,
    },
    Led: {
        "__init__": ["self", "room"],
        "leave": ["self", "name"],
        "several": ["self", "names"],
        "follow": ["self", "room"],
        "undo": ["self"],
        "trial": ["self"],
        "within": ["self", "work"],
        "__len__": ["self"],
    },
    Desk: {"__init__": ["self"], "say": ["self", "command"], "__len__": ["self"]},
}
ATTRIBUTES = (
    (Rule("a"), ["name", "gone"]),
    (Room(), ["rules", "names"]),
    (Led(Room()), ["room", "gone", "may", "left"]),
)


def falling(room):
    """Prices for all of a room who can leave."""
    names = [name for name in room.names if name not in lots.stuck(room)]
    return {name: [9 * at - place for place in range(len(names))] for at, name in enumerate(names)}


def answers(room):
    """What all functions tell of a room."""
    some = list(room.names[:2])
    told = [lots.may(room, some), lots.lots(room), lots.can_be_gone(room, some), lots.stuck(room)]
    told += [lots.hull(room, some), lots.bar(room), lots.bar_holds(room, tuple(some)), len(room), str(room)]
    told += [room.names, room + room, [(room[at], room.without(at)) for at in range(len(room))]]
    return told + later_answers(room)


def later_answers(room):
    """The same for the modules from `orders` to `prices`."""
    order = orders.order_at(room, orders.many(room) - 1)
    costs = falling(room)
    told = [orders.is_order(room, order), orders.number_of(room, order), orders.ahead(room), orders.last(room)]
    told += [orders.swaps(room, order), reasons.reasons(room), reasons.fewest(room), reasons.apart(room)]
    told += [reasons.tells(room, [order]), reasons.told_by([order, order[::-1]]), rings.rings(room)]
    told += [rings.is_free(room, room.names[:2]), prices.worst(room, costs, order), prices.best(room, costs)]
    told += [prices.least_worst(room, costs), comparing.alike(room, Room()), comparing.parting(room, Room())]
    told += [comparing.no_freer(Room(), room), comparing.needless(room), comparing.plain(room)]
    told += [comparing.beside(room, Room.read("q")), led_answers(room, order), desk_answers(room)]
    return [order, *told]


def led_answers(room, order):
    """What a led room tells while its people leave."""
    leading = Led(room)
    told = [(leading.may, leading.left)]
    for name in order:
        leading.leave(name)
        told.append((leading.gone, leading.may, leading.left, len(leading)))
    return told + [leading.within(lambda same: [same.follow(Room()), same.left]), leading.undo(), leading.gone]


def desk_answers(room):
    """What a desk tells of a room that has rules."""
    asked = Desk()
    commands = ["may", "stuck", "last", "many", "order 0", "fewest", "undo", "undo"]
    if len(room):
        commands.insert(0, "room " + str(room).replace("\n", " ; "))
    return [asked.say(command) for command in commands]


def wrong_calls(room):
    """Calls that raise an error."""
    return (
        lambda: room[-1], lambda: room.without(len(room)), lambda: lots.hull(room, [None]),
        lambda: orders.order_at(room, -1), lambda: orders.number_of(room, None), lambda: orders.swaps(room, ["if"]),
        lambda: reasons.tells(room, [None]), lambda: reasons.told_by([room]), lambda: prices.best(room, None),
        lambda: prices.worst(room, falling(room), 0), lambda: prices.least_worst(room, []),
        lambda: comparing.beside(room + Room.read("q"), Room.read("q")), lambda: Led(room).leave(room),
        lambda: Led(room).several(["if"]), lambda: Desk().say(room), lambda: kinds.tree(room),
        lambda: kinds.taken_down([room]), lambda: kinds.peeled([("a", 0, 0), room]),
    )


class Results(unittest.TestCase):
    def test_equal_when_asked_again(self):
        some = rooms_to_try()
        first = [answers(room) for room in some]
        again = [answers(room) for room in reversed(some)]
        self.assertEqual(first, again[::-1])

    def test_equal_for_equal_rooms(self):
        for room in rooms_to_try():
            self.assertEqual(answers(Room.read(str(room))), answers(room))

    def test_rooms_and_rules_never_change(self):
        for room in rooms_to_try():
            text, names, given, rules_told = str(room), room.names, room.rules, [str(rule) for rule in room.rules]
            answers(room)
            for wrong in wrong_calls(room):
                with self.assertRaises(errors.LeaveError):
                    wrong()
            self.assertEqual((str(room), room.names, room.rules), (text, names, given))
            self.assertEqual([str(rule) for rule in given], rules_told)

    def test_defaults_are_not_shared(self):
        Rule("a", ["b"])
        Room([Rule("a")])
        self.assertEqual((Rule("a").gone, Room().rules, Room().names), ((), (), ()))

    def test_sequences_that_are_returned_are_tuples(self):
        room = Room.read("a if b\nb if a\nc\nd if c")
        told = [lots.may(room, ["c"]), lots.lots(room), lots.stuck(room), lots.hull(room, ["c"]), lots.bar(room)]
        told += [room.rules, room.names, room.rules[0].gone, *lots.lots(room)]
        told += [lots.hull(Room(), []), lots.may(Room(), [])]
        told += [orders.order_at(room, 0), orders.ahead(room), orders.ahead(room)[0], orders.last(room)]
        told += [orders.swaps(room, ["c", "d"]), reasons.reasons(room), *reasons.reasons(room), reasons.fewest(room)]
        told += [*reasons.fewest(room), reasons.apart(room), *reasons.apart(room), reasons.reasons(room)[0][1]]
        told += [rings.rings(room), rings.rings(room)[0], rings.rings(room)[0][1], prices.best(room, falling(room))]
        told += [reasons.told_by([["c", "d"]]).rules, orders.swaps(Room(), []), prices.best(Room(), {})]
        leading = Led(room)
        told += [leading.gone, leading.may, leading.several(["c", "d"]) or leading.gone, leading.may]
        told += [comparing.parting(room, Room()), comparing.needless(room), comparing.needless(Room())]
        told += [kinds.tree([("a", "b")]).rules, kinds.peeled([("a", 0, 0)]).rules, comparing.plain(room).rules]
        for thing in told:
            self.assertIsInstance(thing, tuple)

    def test_what_was_returned_may_be_passed_on(self):
        room = Room.read("a\nb if a\nc if b\nd if e")
        self.assertEqual(lots.may(room, lots.lots(room)[1]), ("b",))
        self.assertEqual(lots.hull(room, lots.stuck(room)), ("d", "e"))
        self.assertIs(lots.can_be_gone(room, lots.lots(room)[-1]), True)
        self.assertEqual(Room(room.rules), room)
        self.assertEqual(Rule("x", room.names).gone, room.names)
        self.assertEqual(orders.number_of(room, orders.order_at(room, 0)), 0)
        self.assertIs(reasons.tells(room, reasons.fewest(room)), True)
        self.assertEqual(lots.lots(reasons.told_by(reasons.fewest(room))), lots.lots(room))
        self.assertIs(lots.can_be_gone(room, reasons.apart(room)[0]), True)
        self.assertIs(rings.is_free(room, rings.rings(room)[0][1]), True)
        self.assertIs(orders.is_order(room, prices.best(room, falling(room))), True)
        self.assertIs(comparing.alike(comparing.plain(room), room), True)
        self.assertIs(lots.can_be_gone(room, comparing.parting(room, Room())), True)
        leading = Led(kinds.peeled([(name, at, at * at) for at, name in enumerate(room.names)]))
        leading.several(leading.may)
        leading.follow(comparing.beside(room, kinds.tree([("x", "y"), ("y", "z")])))
        leading.several(orders.order_at(leading.room, 7))
        self.assertEqual((leading.may, leading.left, len(leading)), ((), 1, 3))

    def test_methods_without_a_described_result(self):
        leading = Led(Room.read("a\nb\nc"))
        told = [leading.leave("a"), leading.several(["b"]), leading.several([]), leading.follow(Room())]
        self.assertEqual(told, [None, None, None, None])

    def test_objects_are_not_iterable(self):
        objects = [Rule("a"), Room.read("a\nb"), Led(Room.read("a")), Desk(), Led(Room()).trial(), errors.Refused("a")]
        for thing in objects + [errors.InvalidCommand()]:
            for action in (iter, list, tuple, sorted, lambda same: "a" in same, lambda same: [*same]):
                with self.subTest(type(thing).__name__), self.assertRaises(TypeError):
                    action(thing)

    def test_equal_to_no_object_of_another_class(self):
        for thing in (Rule("q"), Room.read("q"), Room.read("a\nb if a\na")):
            for value in any_values() + [str(thing), errors.InvalidName("q")]:
                with self.subTest(type(thing).__name__, value=repr(value)):
                    self.assertIs(thing == value, False)
                    self.assertIs(thing != value, True)

    def test_large_rooms_that_were_returned(self):
        some = [Room.read("a\nb\nc\nd\ne\nf\ng"), Room.read("h\ni if h\nj if h\nk if i\nk if j\nl\nm\nn if z")]
        room = some[0] + some[1] + some[0] + some[1]
        product = len(lots.lots(some[0])) * len(lots.lots(some[1]))
        self.assertEqual((len(room.names), len(room), len(lots.lots(room))), (15, 30, product))
        self.assertEqual(len(reasons.fewest(room)), sum(len(reasons.apart(part)) for part in some))
        self.assertIs(reasons.tells(room, reasons.fewest(room)), True)
        self.assertEqual(lots.lots(reasons.told_by(reasons.fewest(room))), lots.lots(room))
        self.assertEqual(rings.rings(room), rings.rings(some[1]))
        self.assertEqual(comparing.needless(room), tuple(range(30)))
        self.assertIs(comparing.alike(comparing.plain(room), room), True)
        self.assertEqual(len(comparing.parting(some[0], room)), 1)
        leading = Led(room)
        leading.several(orders.order_at(some[0], 99))
        self.assertEqual((leading.left, leading.may), (orders.many(some[1]), ("h", "l", "m")))
        last_number = orders.many(room) - 1
        self.assertEqual(orders.number_of(room, orders.order_at(room, last_number)), last_number)


class Interface(unittest.TestCase):
    def test_functions_are_defined_in_their_module(self):
        for module, functions in FUNCTIONS.items():
            for word, parameters in functions.items():
                with self.subTest(word):
                    function = getattr(module, word)
                    self.assertTrue(inspect.isfunction(function))
                    self.assertEqual(function.__module__, module.__name__)
                    self.assertEqual(list(inspect.signature(function).parameters), parameters)

    def test_classes_are_defined_in_their_module(self):
        places = [(Rule, rules), (Room, rooms), (Led, led), (Desk, desk)]
        places += [(errors.LeaveError, errors), (errors.Refused, errors), (errors.InvalidDrawing, errors)]
        for cls, module in places:
            self.assertEqual(cls.__module__, module.__name__)

    def test_methods_stand_in_the_class_itself(self):
        for cls, methods in METHODS.items():
            for word, parameters in methods.items():
                with self.subTest(cls.__name__, word=word):
                    self.assertTrue(inspect.isfunction(vars(cls).get(word)))
                    if parameters:
                        self.assertEqual(list(inspect.signature(vars(cls)[word]).parameters), parameters)
        self.assertIsInstance(vars(Room)["read"], classmethod)
        self.assertEqual(list(inspect.signature(Room.read).parameters), ["text"])

    def test_attributes_are_set_when_an_object_is_created(self):
        for thing, words in ATTRIBUTES:
            for word in words:
                self.assertIn(word, vars(thing))

    def test_package_file_is_but_a_docstring(self):
        tree = ast.parse(Path(leavelots.__file__).read_text())
        self.assertEqual(len(tree.body), 1)
        self.assertTrue(ast.get_docstring(tree))


if __name__ == "__main__":
    unittest.main()
