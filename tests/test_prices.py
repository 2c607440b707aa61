"""Points [14] and [15]: the best order where leaving early costs more."""

import copy
import unittest
from random import Random

from leavelots.errors import InvalidOrder, InvalidPrices
from leavelots.prices import best, least_worst, worst
from leavelots.rooms import Room
from leavelots.rules import Rule
from tests.values import (any_values, nested, random_order, rooms_to_try, rooms_where_nobody_can_leave,
                          slow_number_wrong, slow_orders, slow_stuck)

ROOM = Room.read("a\nb\nc if a\nc if b\nd if a b")
COSTS = {"a": [5, 4, 0, 0], "b": [3, 3, 3, 3], "c": [9, 9, 1, 1], "d": [7, 7, 7, 2]}
HALF_STUCK = Room.read("a if b\nb if a\nc\nd if c e\nf if c")
HALF_COSTS = {"c": [2, 1], "f": [9, -3]}
TOP = 10 ** 9


def prices_for(random, room, least=-5, most=5):
    """Prices for all who can leave, some as lists and some as tuples."""
    names = [name for name in room.names if name not in slow_stuck(room)]
    kinds = [random.choice([list, tuple]) for name in names]
    return {name: kind(sorted((random.randint(least, most) for other in names), reverse=True))
            for name, kind in zip(names, kinds)}


def slow_worst(prices, order):
    return max((prices[name][at] for at, name in enumerate(order)), default=None)


def slow_is_wrong(value, many):
    """Whether a value is no sequence of so many integers that never rise."""
    if not isinstance(value, (list, tuple)) or len(value) != many or any(isinstance(price, bool) for price in value):
        return True
    return not all(isinstance(price, int) for price in value) or list(value) != sorted(value, reverse=True)


class Checks(unittest.TestCase):
    """What is the same for the three functions: the prices that they refuse."""

    def refused(self, room, prices, name):
        order = slow_orders(room)[0]
        for told in (lambda: worst(room, prices, order), lambda: best(room, prices), lambda: least_worst(room, prices)):
            with self.assertRaises(InvalidPrices) as error:
                told()
            self.assertEqual(error.exception.name, name, (str(room), prices))

    def taken(self, room, prices):
        order = slow_orders(room)[0]
        worst(room, prices, order)
        best(room, prices)
        least_worst(room, prices)

    def test_no_dict(self):
        for value in [*any_values(), [("a", [1])], (("a", (1,)),)]:
            for room in (ROOM, Room.read("a"), Room(), Room.read("a if b")):
                self.refused(room, value, None)

    def test_missing(self):
        for name in COSTS:
            self.refused(ROOM, {other: costs for other, costs in COSTS.items() if other != name}, name)
        self.refused(ROOM, {}, "a")
        self.refused(ROOM, {"b": COSTS["b"], "d": COSTS["d"]}, "a")
        self.refused(ROOM, {"a": COSTS["a"], "d": COSTS["d"]}, "b")
        self.refused(HALF_STUCK, {"a": [1, 1], "b": [1, 1], "c": [1, 1], "d": [1, 1]}, "f")

    def test_wrong_sequences(self):
        for bad in ((), [], [4], [4, 3, 2], [4, 3, 2, 1, 0], [1, 2, 2, 1], (4, 3, 2, 3), [0, 0, 0, 1], [-2, -1, -1, -1],
                    [4, 3, 2, True], [True, False, False, False], (True, True, True, True), [4, 3, None, 1],
                    [1, 1, 1, "a"], ["d", "c", "b", "a"], [4, 3, [2], 1], nested(1, 8), [[4, 3, 2, 1]], None, 4, True,
                    "dcba", Rule("a"), [Rule("a")] * 4, ROOM):
            for name in COSTS:
                with self.subTest(name=name, bad=bad):
                    self.refused(ROOM, {**COSTS, name: bad}, name)

    def test_any_value_for_a_price_list(self):
        for text, many in (("a", 1), ("a\nb", 2), ("a\nb\nc", 3)):
            room = Room.read(text)
            fair = {name: [0] * many for name in room.names}
            for value in any_values():
                for name in room.names:
                    prices = {**fair, name: value}
                    if slow_is_wrong(value, many):
                        self.refused(room, prices, name)
                    else:
                        self.taken(room, prices)

    def test_first_name_ascending(self):
        for bad in (None, [4, 3, 2], [1, 2, 3, 4]):
            self.refused(ROOM, {**COSTS, "d": bad, "b": bad}, "b")
            self.refused(ROOM, {"d": bad, "c": bad, "b": COSTS["b"], "a": COSTS["a"]}, "c")
            self.refused(ROOM, {"d": bad, "b": COSTS["b"], "a": COSTS["a"]}, "c")
        room = Room.read("b\nab\nabc\nz")
        self.refused(room, {"b": None, "z": [], "abc": [0] * 3}, "ab")
        self.refused(room, {"ab": [0] * 4, "b": None, "z": []}, "abc")

    def test_values_for_others_do_not_matter(self):
        for value in any_values():
            prices = {"a": value, "b": value, "d": value, "zz": value, **HALF_COSTS}
            self.taken(HALF_STUCK, prices)
            self.assertEqual((best(HALF_STUCK, prices), least_worst(HALF_STUCK, prices)), (("c", "f"), 2))
            self.assertIsNone(least_worst(Room.read("a if b"), {"a": value, "b": value}))
        self.refused(HALF_STUCK, {"a": None, **HALF_COSTS, "c": None}, "c")

    def test_as_many_as_can_leave(self):
        self.refused(HALF_STUCK, {"c": [2, 1, 1, 1, 1, 1], "f": [9, -3]}, "c")
        self.refused(HALF_STUCK, {"c": [2, 1], "f": [9, -3, -3, -3, -3, -3]}, "f")

    def test_limits(self):
        prices = {"a": [TOP, -TOP], "b": (TOP, TOP)}
        room = Room.read("a\nb")
        self.assertEqual(worst(room, prices, ("a", "b")), TOP)
        self.assertEqual(worst(room, {"a": [-TOP, -TOP], "b": [TOP, -TOP]}, ("a", "b")), -TOP)
        self.assertEqual(best(room, {"a": [-TOP, -TOP], "b": [TOP, -TOP]}), ("a", "b"))
        self.refused(room, {"a": [-TOP, TOP], "b": (TOP, TOP)}, "a")

    def test_arguments_are_not_changed(self):
        prices = copy.deepcopy(COSTS)
        order = ["a", "b", "c", "d"]
        worst(ROOM, prices, order)
        told = best(ROOM, prices)
        least_worst(ROOM, prices)
        self.assertEqual((prices, order), (COSTS, ["a", "b", "c", "d"]))
        prices["a"].clear()
        self.assertEqual(told, best(ROOM, COSTS))


class Worst(unittest.TestCase):
    def test_by_hand(self):
        for text, price in (("abcd", 5), ("bacd", 4), ("bcad", 9), ("acbd", 9), ("badc", 7), ("abdc", 7)):
            with self.subTest(text):
                self.assertEqual(worst(ROOM, COSTS, tuple(text)), price)
                self.assertEqual(worst(room=ROOM, prices=COSTS, order=list(text)), price)
        self.assertEqual(worst(HALF_STUCK, HALF_COSTS, ("c", "f")), 2)

    def test_below_zero(self):
        self.assertEqual(worst(Room.read("a\nb"), {"a": [-4, -7], "b": [-5, -6]}, ["a", "b"]), -4)
        self.assertEqual(worst(Room.read("a\nb"), {"a": [-4, -7], "b": [-5, -6]}, ["b", "a"]), -5)

    def test_wrong_orders(self):
        for value, at in ((None, 0), ("abcd", 0), ((), 0), ([None], 0), (("a", "d"), 1), (("a", "a"), 1),
                          (("b", "a"), 2), (("b", "c", "x"), 2), (("b", "a", "c"), 3), (("a", "b", "c", "d", "a"), 4),
                          (("a", "b", "c", "d", ["a"]), 4), (ROOM, 0)):
            with self.subTest(value=value):
                with self.assertRaises(InvalidOrder) as told:
                    worst(ROOM, COSTS, value)
                self.assertEqual(told.exception.at, at)

    def test_any_value(self):
        for room in (ROOM, Room(), Room.read("a"), Room.read("a\nb"), Room.read("a if b")):
            prices = prices_for(Random(17), room)
            for value in any_values():
                wrong = slow_number_wrong(room, value)
                if wrong is None:
                    self.assertEqual(worst(room, prices, value), slow_worst(prices, value))
                    continue
                with self.assertRaises(InvalidOrder) as told:
                    worst(room, prices, value)
                self.assertEqual(told.exception.at, wrong)

    def test_prices_come_ahead_of_the_order(self):
        for prices, name in ((None, None), ([], None), ({}, "a"), ({**COSTS, "c": [1]}, "c")):
            for order in (None, (), ("a",), ("x",), ("a", "b", "c", "d", "d"), ("a", "b", "c", "d")):
                with self.assertRaises(InvalidPrices) as told:
                    worst(ROOM, prices, order)
                self.assertEqual(told.exception.name, name)
        with self.assertRaises(InvalidPrices):
            worst(Room(), None, None)
        with self.assertRaises(InvalidOrder):
            worst(Room(), {}, None)

    def test_against_the_prices(self):
        random = Random(18)
        for room in rooms_to_try():
            prices = prices_for(random, room)
            for _ in range(5):
                order = random_order(random, room)
                self.assertEqual(worst(room, prices, order), slow_worst(prices, order), (str(room), prices, order))


class Best(unittest.TestCase):
    def check(self, room, prices):
        """The best price, from all orders."""
        orders = slow_orders(room)
        least = min(slow_worst(prices, order) for order in orders) if orders != [()] else None
        order = best(room, prices)
        self.assertIsInstance(order, tuple)
        self.assertIsNone(slow_number_wrong(room, order), (str(room), prices, order))
        self.assertEqual(slow_worst(prices, order), least, (str(room), prices, order))
        self.assertEqual(worst(room, prices, order), least)
        self.assertEqual(least_worst(room, prices), least)
        return least

    def test_by_hand(self):
        self.assertEqual(self.check(ROOM, COSTS), 4)
        self.assertEqual(best(room=ROOM, prices=COSTS), ("b", "a", "c", "d"))
        self.assertEqual(least_worst(room=ROOM, prices=COSTS), 4)
        self.assertEqual(self.check(ROOM, {name: tuple(costs) for name, costs in COSTS.items()}), 4)
        self.assertEqual(self.check(HALF_STUCK, HALF_COSTS), 2)

    def test_cheapest_first_at_the_price_of_this_place(self):
        room = Room.read("a\nb\nc")
        self.assertEqual(self.check(room, {"a": [9, 0, 0], "b": [2, 2, 2], "c": [3, 3, 1]}), 2)
        self.assertEqual(self.check(room, {"a": [1, 1, 1], "b": [2, 2, 0], "c": [5, 4, 4]}), 4)
        self.assertEqual(self.check(room, {"a": [4, 4, 4], "b": [5, 0, 0], "c": [6, 6, 0]}), 4)

    def test_all_equal_prices(self):
        for room in rooms_to_try():
            names = [name for name in room.names if name not in slow_stuck(room)]
            self.check(room, {name: [7] * len(names) for name in names})

    def test_nobody_can_leave(self):
        for room in rooms_where_nobody_can_leave():
            for prices in ({}, {"a": None}, {"a": [1], "b": [1], "zz": 3}):
                self.assertEqual(best(room, prices), ())
                self.assertIsNone(least_worst(room, prices))
                self.assertIsNone(worst(room, prices, ()))
                self.assertIsNone(worst(room, prices, []))

    def test_against_all_orders(self):
        random = Random(19)
        for room in rooms_to_try():
            self.check(room, prices_for(random, room))
            if len(room.names) <= 5:
                for most in (1, 3, 9, 30):
                    self.check(room, prices_for(random, room, 0, most))


if __name__ == "__main__":
    unittest.main()
