"""Point [2] and the interface: what holds for all objects and functions."""

import ast
import inspect
import unittest
from pathlib import Path

import leavelots
from leavelots import errors, lots, rooms, rules
from leavelots.rooms import Room
from leavelots.rules import Rule
from tests.values import rooms_to_try

FUNCTIONS = {
    "may": ["room", "gone"],
    "lots": ["room"],
    "can_be_gone": ["room", "value"],
    "stuck": ["room"],
    "hull": ["room", "staying"],
    "bar": ["room"],
    "bar_holds": ["room", "value"],
}


def answers(room):
    """What all functions tell of a room."""
    some = list(room.names[:2])
    told = [lots.may(room, some), lots.lots(room), lots.can_be_gone(room, some), lots.stuck(room)]
    told += [lots.hull(room, some), lots.bar(room), lots.bar_holds(room, tuple(some)), len(room), str(room)]
    return told + [room.names, room + room, [(room[at], room.without(at)) for at in range(len(room))]]


class Results(unittest.TestCase):
    def test_equal_when_asked_again(self):
        some = rooms_to_try()
        first = [answers(room) for room in some]
        again = [answers(room) for room in reversed(some)]
        self.assertEqual(first, again[::-1])

    def test_equal_for_equal_rooms(self):
        for room in rooms_to_try():
            self.assertEqual(answers(Room.read(str(room))), answers(room))

    def test_rooms_and_rules_never_change(self):
        for room in rooms_to_try():
            text, names, given, rules_told = str(room), room.names, room.rules, [str(rule) for rule in room.rules]
            answers(room)
            for wrong in (lambda: room[-1], lambda: room.without(len(room)), lambda: lots.hull(room, [None])):
                with self.assertRaises(errors.LeaveError):
                    wrong()
            self.assertEqual((str(room), room.names, room.rules), (text, names, given))
            self.assertEqual([str(rule) for rule in given], rules_told)

    def test_defaults_are_not_shared(self):
        Rule("a", ["b"])
        Room([Rule("a")])
        self.assertEqual((Rule("a").gone, Room().rules, Room().names), ((), (), ()))

    def test_sequences_that_are_returned_are_tuples(self):
        room = Room.read("a if b\nb if a\nc\nd if c")
        told = [lots.may(room, ["c"]), lots.lots(room), lots.stuck(room), lots.hull(room, ["c"]), lots.bar(room)]
        told += [room.rules, room.names, room.rules[0].gone, *lots.lots(room)]
        told += [lots.hull(Room(), []), lots.may(Room(), [])]
        for thing in told:
            self.assertIsInstance(thing, tuple)

    def test_what_was_returned_may_be_passed_on(self):
        room = Room.read("a\nb if a\nc if b\nd if e")
        self.assertEqual(lots.may(room, lots.lots(room)[1]), ("b",))
        self.assertEqual(lots.hull(room, lots.stuck(room)), ("d", "e"))
        self.assertIs(lots.can_be_gone(room, lots.lots(room)[-1]), True)
        self.assertEqual(Room(room.rules), room)
        self.assertEqual(Rule("x", room.names).gone, room.names)


class Interface(unittest.TestCase):
    def test_functions_are_defined_in_their_module(self):
        for word, parameters in FUNCTIONS.items():
            with self.subTest(word):
                function = getattr(lots, word)
                self.assertTrue(inspect.isfunction(function))
                self.assertEqual(function.__module__, "leavelots.lots")
                self.assertEqual(list(inspect.signature(function).parameters), parameters)

    def test_classes_are_defined_in_their_module(self):
        for cls, module in ((Rule, rules), (Room, rooms), (errors.LeaveError, errors), (errors.Refused, errors)):
            self.assertEqual(cls.__module__, module.__name__)

    def test_methods_stand_in_the_class_itself(self):
        for word in ("__eq__", "__str__"):
            self.assertIn(word, vars(Rule))
        for word in ("without", "read", "__len__", "__getitem__", "__add__", "__eq__", "__str__"):
            self.assertIn(word, vars(Room))
        self.assertIsInstance(vars(Room)["read"], classmethod)

    def test_package_file_is_but_a_docstring(self):
        tree = ast.parse(Path(leavelots.__file__).read_text())
        self.assertEqual(len(tree.body), 1)
        self.assertTrue(ast.get_docstring(tree))


if __name__ == "__main__":
    unittest.main()
