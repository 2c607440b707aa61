"""Points [9] and [10]: orders, their numbers, and who is ahead of whom in all of them."""

import unittest
from itertools import permutations
from random import Random

from leavelots.errors import InvalidOrder, NoOrder
from leavelots.lots import stuck
from leavelots.orders import ahead, is_order, last, many, number_of, order_at, swaps
from leavelots.rooms import Room
from leavelots.rules import Rule
from tests.values import (any_values, nested, random_order, rooms_to_try, rooms_where_nobody_can_leave,
                          slow_number_wrong, slow_orders)

ROOM = Room.read("a\nb\nc if a\nc if b\nd if a b")
SIX = [tuple(order) for order in ("abcd", "abdc", "acbd", "bacd", "badc", "bcad")]
HALF_STUCK = Room.read("a if b\nb if a\nc\nd if c e\nf if c\ng")

# Things that are no order of ROOM, with what the error tells of them.
WRONG = [
    (None, 0), ("abcd", 0), (0, 0), (True, 0), (ROOM, 0), (Rule("a"), 0),
    ((), 0), ([], 0), ([None], 0), ([[]], 0), (("d", "a", "b", "c"), 0), (("if", "a"), 0), (("A",), 0),
    (("a",), 1), (["b"], 1), (("a", "d"), 1), (("a", "a", "b", "c"), 1), (("a", "x", "b", "c"), 1), (("a", 1, "b"), 1),
    (("a", "b"), 2), (("b", "c", "d", "a"), 2), (("a", "b", "a"), 2), (["a", "b", ["c"], "d"], 2),
    (("a", "b", "c"), 3), (("b", "a", "d", "d"), 3), (("a", "b", "d", nested("c", 7)), 3), (("a", "b", "c", "cd"), 3),
    (("a", "b", "c", "d", "a"), 4), (("a", "b", "c", "d", "x"), 4), (("a", "b", "c", "d", None), 4),
    (["a", "b", "c", "d", "d", "d"], 4), (("a", "b", "c", "d", ROOM), 4), (("a", "b", "c", "d", ()), 4),
]


def some_of(random, things, most=12):
    """All of a few things; of many the first, the last and some others."""
    if len(things) <= most:
        return things
    return [things[0], things[-1], *random.sample(things, most - 2)]


class IsOrder(unittest.TestCase):
    def test_by_hand(self):
        told = [order for order in permutations("abcd") if is_order(ROOM, order)]
        self.assertEqual(told, SIX)
        for order in SIX:
            self.assertIs(is_order(ROOM, order), True)
            self.assertIs(is_order(room=ROOM, value=list(order)), True)
        self.assertIs(is_order(HALF_STUCK, ("c", "g", "f")), True)
        self.assertIs(is_order(HALF_STUCK, ("c", "g", "f", "a")), False)

    def test_wrong_ones(self):
        for value, at in WRONG:
            with self.subTest(value=value):
                self.assertIs(is_order(ROOM, value), False)

    def test_any_value(self):
        for room in (ROOM, HALF_STUCK, Room(), Room.read("a"), Room.read("a\nb"), Room.read("a\nb if a")):
            for value in any_values():
                self.assertIs(is_order(room, value), slow_number_wrong(room, value) is None, (str(room), value))

    def test_nobody_can_leave(self):
        for room in rooms_where_nobody_can_leave():
            self.assertIs(is_order(room, ()), True)
            self.assertIs(is_order(room, []), True)
            for value in (("a",), [None], ((),), None, "", 0):
                self.assertIs(is_order(room, value), False)


class Many(unittest.TestCase):
    def test_by_hand(self):
        for text, number in (("a", 1), ("a\na", 1), ("a\nb", 2), ("a\nb if a", 1), ("a\nb\nc\nd\ne\nf\ng", 5040),
                             ("a\nb\nc if a\nc if b\nd if a b", 6), ("a\nb\nc if a b", 2), ("a\na if b\nb", 2),
                             ("b if c\nc\na if z", 1), ("a\nb if a\nc\nd if c", 6)):
            with self.subTest(text):
                self.assertEqual(many(Room.read(text)), number)
        self.assertEqual(many(room=HALF_STUCK), 3)

    def test_one_if_nobody_can_leave(self):
        for room in rooms_where_nobody_can_leave():
            self.assertEqual(many(room), 1)

    def test_against_all_orders(self):
        for room in rooms_to_try():
            self.assertEqual(many(room), len(slow_orders(room)), str(room))

    def test_rooms_that_were_put_together(self):
        double = ROOM + Room.read("e\nf\ng if e\ng if f\nh if e f") + Room.read("z if y")
        self.assertEqual(many(double), 6 * 6 * 70)
        self.assertEqual(number_of(double, order_at(double, 1234)), 1234)


class Numbers(unittest.TestCase):
    def test_by_hand(self):
        self.assertEqual([order_at(ROOM, at) for at in range(6)], SIX)
        self.assertEqual([number_of(ROOM, order) for order in SIX], list(range(6)))
        self.assertEqual(order_at(room=ROOM, at=2), ("a", "c", "b", "d"))
        self.assertEqual(number_of(room=ROOM, order=["a", "c", "b", "d"]), 2)

    def test_ascending_as_strings_are(self):
        room = Room.read("b\nab\na\nabc\nz if b")
        self.assertEqual(order_at(room, 0), ("a", "ab", "abc", "b", "z"))
        self.assertEqual(order_at(room, many(room) - 1), ("b", "z", "abc", "ab", "a"))

    def test_nobody_can_leave(self):
        for room in rooms_where_nobody_can_leave():
            self.assertEqual(order_at(room, 0), ())
            self.assertEqual((number_of(room, ()), number_of(room, [])), (0, 0))
            for order in (["a"], ("zz",), [None], ((),), None, "a", room):
                with self.assertRaises(InvalidOrder) as told:
                    number_of(room, order)
                self.assertEqual(told.exception.at, 0)
            for at in (1, -1):
                with self.assertRaises(NoOrder) as told:
                    order_at(room, at)
                self.assertEqual(told.exception.at, at)

    def test_no_such_number(self):
        for at in (-1, -2, -6, -7, 6, 7, 5040, 10 ** 9, -10 ** 9):
            with self.assertRaises(NoOrder) as told:
                order_at(ROOM, at)
            self.assertEqual(told.exception.at, at)

    def test_wrong_orders(self):
        for value, at in WRONG:
            for function in (number_of, swaps):
                with self.subTest(function=function.__name__, value=value):
                    with self.assertRaises(InvalidOrder) as told:
                        function(ROOM, value)
                    self.assertEqual(told.exception.at, at)

    def test_any_value(self):
        for room in (ROOM, HALF_STUCK, Room(), Room.read("a"), Room.read("a\nb"), Room.read("b\na if b")):
            for value in any_values():
                wrong = slow_number_wrong(room, value)
                for function in (number_of, swaps):
                    if wrong is None:
                        function(room, value)
                        continue
                    with self.assertRaises(InvalidOrder) as told:
                        function(room, value)
                    self.assertEqual(told.exception.at, wrong, (str(room), value))

    def test_against_all_orders(self):
        random = Random(9)
        for room in rooms_to_try():
            orders = slow_orders(room)
            for at, order in some_of(random, list(enumerate(orders))):
                told = order_at(room, at)
                self.assertEqual(told, order, (str(room), at))
                self.assertIsInstance(told, tuple)
                self.assertEqual(number_of(room, order), at, (str(room), order))
                self.assertIs(is_order(room, order), True)
            for at in (-1, -len(orders), len(orders), len(orders) + 1):
                with self.assertRaises(NoOrder) as told:
                    order_at(room, at)
                self.assertEqual(told.exception.at, at)

    def test_spoiled_orders(self):
        random = Random(10)
        for room in rooms_to_try():
            for _ in range(8):
                order = list(random_order(random, room))
                things = [*room.names, "q", "if", None, 0, ["a"], room]
                order[random.randrange(len(order) + 1):random.randrange(len(order) + 1)] = [random.choice(things)]
                given, wrong = list(order), slow_number_wrong(room, order)
                self.assertIs(is_order(room, order), wrong is None)
                for function in (number_of, swaps):
                    try:
                        function(room, order)
                        at = None
                    except InvalidOrder as error:
                        at = error.at
                    self.assertEqual(at, wrong, (str(room), given))
                self.assertEqual(order, given)


class Ahead(unittest.TestCase):
    def test_by_hand(self):
        self.assertEqual(ahead(ROOM), (("a", "d"), ("b", "d")))
        self.assertEqual(ahead(room=HALF_STUCK), (("c", "f"),))
        self.assertEqual(ahead(Room.read("c\nb if c\na if b")), (("b", "a"), ("c", "a"), ("c", "b")))
        self.assertEqual(ahead(Room.read("a\nb")), ())

    def test_without_a_rule_that_says_so(self):
        room = Room.read("a\nb if a\nc if a\nd if b\nd if c")
        self.assertEqual(ahead(room), (("a", "b"), ("a", "c"), ("a", "d")))

    def test_those_who_are_stuck_are_ahead_of_nobody(self):
        for room in rooms_where_nobody_can_leave():
            self.assertEqual(ahead(room), ())
        self.assertEqual(ahead(Room.read("a\nb if a\nb if z\nc if z")), (("a", "b"),))

    def test_against_all_orders(self):
        for room in rooms_to_try():
            pairs = None
            for order in slow_orders(room):
                found = {(order[at], name) for at in range(len(order)) for name in order[at + 1:]}
                pairs = found if pairs is None else pairs & found
            self.assertEqual(ahead(room), tuple(sorted(pairs)), str(room))


class Last(unittest.TestCase):
    def test_by_hand(self):
        self.assertEqual(last(ROOM), ("c", "d"))
        self.assertEqual(last(room=HALF_STUCK), ("f", "g"))
        self.assertEqual(last(Room.read("b\na if b")), ("a",))
        self.assertEqual(last(Room.read("b\na")), ("a", "b"))

    def test_nobody_can_leave(self):
        for room in rooms_where_nobody_can_leave():
            self.assertEqual(last(room), ())

    def test_against_all_orders(self):
        for room in rooms_to_try():
            found = {name for order in slow_orders(room) for name in order[-1:]}
            self.assertEqual(last(room), tuple(sorted(found)), str(room))
            self.assertFalse(set(last(room)) & set(stuck(room)))


class Swaps(unittest.TestCase):
    def test_by_hand(self):
        found = [(0, 1, 2), (0, 2), (1,), (0, 1, 2), (0, 2), (1,)]
        for order, places in zip(SIX, found):
            with self.subTest(order=order):
                self.assertEqual(swaps(ROOM, order), places)
                self.assertEqual(swaps(room=ROOM, order=list(order)), places)

    def test_short_orders(self):
        for room in rooms_where_nobody_can_leave():
            self.assertEqual(swaps(room, ()), ())
        self.assertEqual(swaps(Room.read("a"), ["a"]), ())
        self.assertEqual(swaps(Room.read("a\nb"), ["b", "a"]), (0,))
        self.assertEqual(swaps(Room.read("a\nb if a"), ["a", "b"]), ())

    def test_against_all_orders(self):
        random = Random(11)
        for room in rooms_to_try():
            orders = slow_orders(room)
            known = set(orders)
            for order in some_of(random, orders):
                found = []
                for at in range(len(order) - 1):
                    if order[:at] + (order[at + 1], order[at]) + order[at + 2:] in known:
                        found.append(at)
                told = swaps(room, order)
                self.assertEqual(told, tuple(found), (str(room), order))
                self.assertIsInstance(told, tuple)


if __name__ == "__main__":
    unittest.main()
