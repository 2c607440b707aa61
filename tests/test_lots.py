"""Points [1], [7] and [8]: lots that can be gone, and who can never leave."""

import unittest
from itertools import permutations
from random import Random

from leavelots.errors import InvalidName
from leavelots.lots import bar, bar_holds, can_be_gone, hull, lots, may, stuck
from leavelots.rooms import Room
from leavelots.rules import Rule
from tests.values import (any_values, is_name, is_sequence, random_room, rooms_to_try, slow_bar_holds, slow_hull,
                          slow_lots, slow_may, subsets)

ROOM = Room.read("a\nb\nc if a\nc if b\nd if a b")
HALF_STUCK = Room.read("a if b\nb if a\nc\nd if c e\nf if c")


def is_lot(value):
    return isinstance(value, tuple) and all(is_name(name) for name in value) and list(value) == sorted(set(value))


def shuffled(random, names):
    return random.sample(list(names), len(names))


class May(unittest.TestCase):
    def test_by_hand(self):
        for gone, free in (("", "ab"), ("a", "bc"), ("b", "ac"), ("ab", "cd"), ("abc", "d"), ("abcd", ""), ("ac", "b")):
            with self.subTest(gone):
                self.assertEqual(may(ROOM, list(gone)), tuple(free))
                self.assertEqual(may(room=ROOM, gone=tuple(gone)), tuple(free))

    def test_any_order_and_some_twice(self):
        self.assertEqual(may(ROOM, ["b", "a", "b"]), ("c", "d"))
        self.assertEqual(may(ROOM, ("b", "a")), ("c", "d"))
        self.assertEqual(may(Room.read("c if a b"), ["a", "a"]), ())

    def test_whether_they_can_be_gone_or_not(self):
        self.assertEqual(may(ROOM, ["c"]), ("a", "b"))
        self.assertEqual(may(ROOM, ["d", "a"]), ("b", "c"))
        self.assertEqual(may(HALF_STUCK, ["a"]), ("b", "c"))
        self.assertEqual(may(HALF_STUCK, ["e", "c"]), ("d", "f"))

    def test_names_that_are_not_in_the_room(self):
        self.assertEqual(may(ROOM, ["x", "zz"]), ("a", "b"))
        self.assertEqual(may(ROOM, ["x", "a"]), ("b", "c"))
        self.assertEqual(may(Room(), ["x"]), ())

    def test_who_has_no_rule_may_never_leave(self):
        self.assertEqual(may(Room.read("a if b"), []), ())
        self.assertEqual(may(Room.read("a if b"), ["a"]), ())
        self.assertEqual(may(Room.read("a if b"), ["b"]), ("a",))

    def test_once_with_several_rules(self):
        self.assertEqual(may(Room.read("a\na\na if b\nb"), ["b"]), ("a",))
        self.assertEqual(may(Room.read("b\nab\na\nabc\nz"), []), ("a", "ab", "abc", "b", "z"))

    def test_against_the_rules(self):
        random = Random(7)
        for room in rooms_to_try():
            for gone in subsets(room.names):
                given = shuffled(random, gone + gone[:1] + ("q",))
                before = list(given)
                free = may(room, given)
                self.assertEqual(free, slow_may(room, gone), (str(room), given))
                self.assertTrue(is_lot(free))
                self.assertEqual(given, before)


class Lots(unittest.TestCase):
    def test_by_hand(self):
        nine = ("", "a", "ab", "abc", "abcd", "abd", "ac", "b", "bc")
        self.assertEqual(lots(ROOM), tuple(tuple(lot) for lot in nine))
        self.assertEqual(lots(room=HALF_STUCK), ((), ("c",), ("c", "f")))

    def test_the_empty_lot_can_always_be_gone(self):
        self.assertEqual(lots(Room()), ((),))
        self.assertEqual(lots(Room.read("a if b\nb if a")), ((),))
        self.assertEqual(lots(Room.read("a if b")), ((),))

    def test_ascending(self):
        self.assertEqual(lots(Room.read("b\nab")), ((), ("ab",), ("ab", "b"), ("b",)))

    def test_against_the_rules(self):
        for room in rooms_to_try():
            found = lots(room)
            self.assertIsInstance(found, tuple)
            self.assertEqual(found, slow_lots(room), str(room))
            self.assertTrue(all(is_lot(lot) for lot in found))

    def test_both_together_can_be_gone(self):
        for room in rooms_to_try():
            found = set(lots(room))
            for one in list(found)[:40]:
                for other in list(found)[:40]:
                    self.assertIn(tuple(sorted(set(one + other))), found)

    def test_seven_names_and_thirty_rules(self):
        room = Room([Rule(name) for name in "abcdefg"] + [Rule("a", ["b", "c"])] * 23)
        self.assertEqual((len(room), len(lots(room)), stuck(room)), (30, 128, ()))
        self.assertEqual(lots(room), tuple(sorted(subsets("abcdefg"))))

    def test_rooms_that_were_put_together(self):
        p = random_room(Random(3), ["a", "b", "c", "d", "e", "f", "g"], 30)
        q = Room([Rule("x" + rule.name, ["x" + name for name in rule.gone]) for rule in p.rules])
        self.assertEqual(len(lots(p + q)), len(lots(p)) ** 2)
        self.assertEqual(stuck(p + q), tuple(sorted(stuck(p) + stuck(q))))


class CanBeGone(unittest.TestCase):
    def test_by_hand(self):
        for order in permutations("abd"):
            self.assertIs(can_be_gone(ROOM, order), True)
            self.assertIs(can_be_gone(ROOM, list(order)), True)
        for value in ("c", "d", "ad", "bd", "cd", "acd"):
            for order in permutations(value):
                self.assertIs(can_be_gone(ROOM, list(order)), False, order)
        self.assertIs(can_be_gone(room=ROOM, value=["c", "b"]), True)

    def test_nobody(self):
        for room in (Room(), ROOM, Room.read("a if b")):
            self.assertIs(can_be_gone(room, []), True)
            self.assertIs(can_be_gone(room, ()), True)

    def test_with_nobody_else_gone(self):
        self.assertIs(can_be_gone(Room.read("a\nb if a\nc if b"), ["a", "c"]), False)
        self.assertIs(can_be_gone(Room.read("a\nb if a\nc if b"), ["c", "a", "b"]), True)

    def test_unlike_names_of_the_room(self):
        for value in (["a", "a"], ("a", "b", "a"), ["a", "x"], ["x"], ["a", "if"], ["a", "A"], ["a", "abcd"], [""]):
            with self.subTest(value):
                self.assertIs(can_be_gone(ROOM, value), False)

    def test_no_sequence(self):
        for value in ("a", "ab", "", None, 0, True, ROOM, Rule("a"), Room()):
            with self.subTest(repr(value)):
                self.assertIs(can_be_gone(ROOM, value), False)

    def test_any_value(self):
        for room in (Room(), ROOM, HALF_STUCK, Room.read("a\nb if a")):
            found = [set(lot) for lot in slow_lots(room)]
            for value in any_values():
                with self.subTest(repr(value)):
                    names = is_sequence(value) and all(is_name(thing) for thing in value)
                    right = bool(names and len(set(value)) == len(value) and set(value) in found)
                    self.assertIs(can_be_gone(room, value), right)

    def test_in_any_order_against_the_lots(self):
        random = Random(11)
        for room in rooms_to_try():
            found = slow_lots(room)
            for lot in subsets(room.names):
                given = shuffled(random, lot)
                self.assertIs(can_be_gone(room, given), lot in found, (str(room), given))
                self.assertIs(can_be_gone(room, tuple(given)), lot in found)


class Stuck(unittest.TestCase):
    def test_by_hand(self):
        texts = {
            "": "", "a": "", "a if b": "ab", "a if b\nb": "", "a if b\nb if a\nc": "ab", "a\na if z": "z",
            "c if b\nb if a": "abc", "a\nb if a\nb if z\nc if z": "cz", "a if b\nb if c\nc if a\nc": "",
        }
        for text, names in texts.items():
            with self.subTest(text):
                self.assertEqual(stuck(Room.read(text)), tuple(names))
        self.assertEqual(stuck(room=HALF_STUCK), ("a", "b", "d", "e"))

    def test_against_the_lots(self):
        for room in rooms_to_try():
            self.assertEqual(stuck(room), slow_hull(room, ()), str(room))
            self.assertTrue(is_lot(stuck(room)))


class Hull(unittest.TestCase):
    def test_by_hand(self):
        hulls = {"": "", "a": "ad", "b": "bd", "ab": "abcd", "c": "c", "d": "d", "cd": "cd"}
        for staying, waiting in hulls.items():
            with self.subTest(staying):
                self.assertEqual(hull(ROOM, list(staying)), tuple(waiting))
                self.assertEqual(hull(room=ROOM, staying=tuple(staying)), tuple(waiting))

    def test_who_is_stuck_is_always_in_it(self):
        self.assertEqual(hull(HALF_STUCK, []), ("a", "b", "d", "e"))
        self.assertEqual(hull(HALF_STUCK, ["e"]), ("a", "b", "d", "e"))
        self.assertEqual(hull(HALF_STUCK, ["c"]), ("a", "b", "c", "d", "e", "f"))

    def test_any_order_and_some_twice(self):
        self.assertEqual(hull(ROOM, ["b", "a", "b"]), ("a", "b", "c", "d"))
        self.assertEqual(hull(Room(), []), ())

    def test_against_the_lots(self):
        random = Random(5)
        for room in rooms_to_try():
            for staying in subsets(room.names):
                given = shuffled(random, staying)
                before = list(given)
                self.assertEqual(hull(room, given), slow_hull(room, staying), (str(room), given))
                self.assertEqual(given, before)

    def test_first_thing_that_is_no_name_of_the_room(self):
        for value in any_values() + ["x", "ab", "da"]:
            if isinstance(value, str) and value in ROOM.names:
                continue
            tried = [value], ("a", value), ["a", "d", value, "b"], [value, "x", None], ["b", value, ["x"], "zz"]
            for staying in tried:
                with self.subTest(repr(staying)):
                    with self.assertRaises(InvalidName) as caught:
                        hull(ROOM, staying)
                    self.assertIs(caught.exception.name, value)

    def test_no_name_is_in_an_empty_room(self):
        with self.assertRaises(InvalidName) as caught:
            hull(Room(), ["a"])
        self.assertEqual(caught.exception.name, "a")


class Bar(unittest.TestCase):
    def test_none_if_all_can_leave(self):
        for text in ("", "a", "a\nb if a", str(ROOM), "a if b\nb"):
            with self.subTest(text):
                self.assertIsNone(bar(Room.read(text)))

    def test_a_lot_that_holds(self):
        for room in rooms_to_try():
            shown = bar(room)
            if not slow_hull(room, ()):
                self.assertIsNone(shown)
                continue
            self.assertTrue(is_lot(shown), shown)
            self.assertTrue(set(shown) <= set(room.names))
            self.assertTrue(slow_bar_holds(room, shown), (str(room), shown))
            self.assertIs(bar_holds(room, shown), True)

    def test_by_parameter_name(self):
        self.assertEqual(bar(room=Room.read("a if b\nb if a\nc")), ("a", "b"))
        self.assertIn(bar(Room.read("a if b")), (("b",), ("a", "b")))


class BarHolds(unittest.TestCase):
    def test_by_hand(self):
        room = Room.read("a if b\nb if a\nb if a c\nc\nd if e\nd if a\nf if d\nf if c")
        holding = [("a", "b"), ("e",), ("a", "b", "e"), ("a", "b", "d", "e")]
        for lot in subsets(room.names):
            with self.subTest(lot):
                self.assertIs(bar_holds(room, lot), lot in holding)
        self.assertIs(bar_holds(room=room, value=("e",)), True)

    def test_each_rule_wants_another_one(self):
        room = Room.read("a if b\na if c\nb if a\nc if a")
        self.assertIs(bar_holds(room, ("a", "b")), False)
        self.assertIs(bar_holds(room, ("a", "b", "c")), True)
        self.assertIs(bar_holds(room, ("a",)), False)

    def test_somebody_without_a_rule_is_enough(self):
        self.assertIs(bar_holds(Room.read("a if b"), ("b",)), True)
        self.assertIs(bar_holds(Room.read("a if b"), ("a",)), False)
        self.assertIs(bar_holds(Room.read("a if b"), ("a", "b")), True)

    def test_not_empty_and_of_the_room(self):
        room = Room.read("a if b\nb if a")
        for value in ((), ("x",), ("a", "b", "x"), ("a", "b", "if"), ("A",)):
            with self.subTest(value):
                self.assertIs(bar_holds(room, value), False)
        self.assertIs(bar_holds(Room(), ()), False)

    def test_a_lot_is_an_ascending_tuple_of_unlike_names(self):
        room = Room.read("a if b\nb if a\nab if a")
        self.assertIs(bar_holds(room, ("a", "ab", "b")), True)
        for value in (["a", "b"], ("b", "a"), ("a", "a", "b"), ("a", "b", "b"), ("a", "b", "ab"), "ab", [("a", "b")]):
            with self.subTest(value):
                self.assertIs(bar_holds(room, value), False)

    def test_any_value(self):
        for room in (Room(), ROOM, HALF_STUCK, Room.read("a if b"), Room.read("b if a")):
            for value in any_values():
                with self.subTest(repr(value)):
                    right = is_lot(value) and set(value) <= set(room.names) and slow_bar_holds(room, value)
                    self.assertIs(bar_holds(room, value), right)

    def test_against_the_rules(self):
        for room in rooms_to_try():
            for lot in subsets(room.names):
                self.assertIs(bar_holds(room, lot), slow_bar_holds(room, lot), (str(room), lot))


if __name__ == "__main__":
    unittest.main()
