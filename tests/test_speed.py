"""Rooms of 7 names in which much can leave early: each function answers in well under a second."""

import unittest
from itertools import combinations
from time import perf_counter

from leavelots.comparing import alike, beside, needless, no_freer, parting, plain
from leavelots.desk import Desk
from leavelots.kinds import peeled, taken_down, tree
from leavelots.led import Led
from leavelots.lots import bar, bar_holds, can_be_gone, hull, lots, may, stuck
from leavelots.orders import ahead, is_order, last, many, number_of, order_at, swaps
from leavelots.prices import best, least_worst, worst
from leavelots.reasons import apart, fewest, reasons, tells, told_by
from leavelots.rings import is_free, rings
from leavelots.rooms import Room
from leavelots.rules import Rule

SEVEN = tuple("abcdefg")


def large_rooms():
    """All free, by 7 rules and by 30; and two in which there are many reasons and many rings."""
    free = [Rule(name) for name in SEVEN]
    triples = list(combinations("abcdef", 3))
    return [
        Room(free),
        Room(free + [Rule(name, [other]) for name in SEVEN for other in SEVEN if other != name][:23]),
        Room(free[:6] + [Rule("g", lot) for lot in triples]),
        Room(free[:4] + [Rule(name, lot) for name in "efg" for lot in combinations("abcd", 2)]),
    ]


class Speed(unittest.TestCase):
    def quick(self, function, *given):
        start = perf_counter()
        told = function(*given)
        self.assertLess(perf_counter() - start, 1, function.__name__)
        return told

    def test_lots(self):
        for room in large_rooms():
            self.assertLessEqual(len(self.quick(lots, room)), 128)
            self.assertEqual(self.quick(stuck, room), ())
            self.assertIsNone(self.quick(bar, room))
            self.assertIs(self.quick(bar_holds, room, SEVEN), False)
            self.assertIs(self.quick(can_be_gone, room, SEVEN[::-1]), True)
            self.assertEqual(self.quick(hull, room, SEVEN), SEVEN)
            self.assertEqual(self.quick(may, room, ()), tuple(rule.name for rule in room.rules if not rule.gone))

    def test_orders(self):
        for room in large_rooms():
            number = self.quick(many, room) - 1
            order = self.quick(order_at, room, number)
            self.assertEqual(self.quick(number_of, room, order), number)
            self.assertIs(self.quick(is_order, room, order), True)
            self.assertEqual(self.quick(ahead, room), ())
            self.quick(last, room)
            self.assertEqual(self.quick(swaps, room, SEVEN)[:3], (0, 1, 2))
        self.assertEqual(many(large_rooms()[0]), 5040)

    def test_reasons_and_rings(self):
        for room in large_rooms():
            self.assertGreaterEqual(len(self.quick(reasons, room)), 7)
            orders = self.quick(fewest, room)
            self.assertEqual(len(self.quick(apart, room)), len(orders))
            self.assertIs(self.quick(tells, room, orders), True)
            self.quick(told_by, orders)
            self.quick(rings, room)
            self.assertIs(self.quick(is_free, room, SEVEN[:4]), True)

    def test_prices(self):
        costs = {name: tuple(range(10 * at, 10 * at - 7, -1)) for at, name in enumerate(SEVEN)}
        for room in large_rooms():
            order = self.quick(best, room, costs)
            self.assertEqual(self.quick(worst, room, costs, order), self.quick(least_worst, room, costs))

    def test_kinds(self):
        pairs = list(combinations(SEVEN, 2))
        self.assertEqual(many(self.quick(tree, [("a", other) for other in "bcdefg"])), 1440)
        self.assertEqual(many(self.quick(taken_down, pairs + [pair[::-1] for pair in pairs])), 5040)
        self.assertEqual(many(self.quick(taken_down, [("a", other) for other in "bcdefg"])), 1440)
        self.assertEqual(stuck(self.quick(taken_down, list(zip(SEVEN, SEVEN[1:] + SEVEN[:1])))), SEVEN)
        bow = [(name, 7 * at - 21, (at - 3) ** 2) for at, name in enumerate(SEVEN)]
        self.assertEqual(many(self.quick(peeled, bow)), 5040)
        around = [("b", 50, 1), ("c", 26, 43), ("d", -25, 42), ("e", -50, 0), ("f", -24, -44), ("g", 26, -43)]
        self.assertEqual(may(self.quick(peeled, [("a", 0, 0), *around]), ()), tuple("bcdefg"))

    def test_comparing(self):
        for room in large_rooms():
            for other in large_rooms():
                self.assertIs(self.quick(alike, room, other), self.quick(parting, room, other) is None)
                self.quick(no_freer, room, other)
            self.quick(needless, room)
            self.assertIs(self.quick(alike, self.quick(plain, room), room), True)
            self.quick(beside, room, Room.read("x\ny if x\nz if x y"))

    def test_forty_deeds_of_a_led_room(self):
        def deeds(room, led):
            for _ in range(5):
                led.follow(room)
                for name in SEVEN[:3]:
                    led.leave(name)
                led.several(SEVEN[3:4])
                led.within(lambda same: same.undo())
                led.undo()
                led.undo()
            return len(led)

        for room in large_rooms():
            self.assertEqual(self.quick(deeds, room, self.quick(Led, room)), 15)

    def test_forty_commands_of_a_desk(self):
        def commands(text, desk):
            told = []
            for _ in range(4):
                told.append(desk.say(f"room {text}"))
                told += [desk.say(word) for word in ("leave a", "leave b", "may", "gone", "stuck", "last", "many")]
                told += [desk.say(word) for word in ("order 9", "fewest")]
            return told

        for room in large_rooms():
            text = str(room).replace("\n", " ; ")
            self.assertEqual(len(self.quick(commands, text, Desk())), 40)


if __name__ == "__main__":
    unittest.main()
