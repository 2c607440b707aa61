"""The examples of the document, and those of README.md."""

import doctest
import unittest
from pathlib import Path

from leavelots.desk import Desk
from leavelots.kinds import peeled, taken_down, tree
from leavelots.lots import bar_holds, hull, lots, may, stuck
from leavelots.orders import ahead, last, many, number_of, order_at, swaps
from leavelots.prices import best, least_worst
from leavelots.reasons import fewest, reasons
from leavelots.rings import is_free, rings
from leavelots.rooms import Room

README = Path(__file__).resolve().parent.parent / "README.md"


class Examples(unittest.TestCase):
    def setUp(self):
        self.room = Room.read("a\nb\nc if a\nc if b\nd if a b")

    def test_section_1(self):
        told = [reason for reason in reasons(self.room) if reason[0] == "c"]
        self.assertEqual((stuck(self.room), len(lots(self.room))), ((), 9))
        self.assertEqual(told, [("c", ("a", "c")), ("c", ("b", "c"))])
        self.assertEqual((len(fewest(self.room)), stuck(Room.read("a if b\nb if a\nc"))), (3, ("a", "b")))

    def test_section_4(self):
        told = may(self.room, ["b"]), hull(self.room, ["a"]), hull(self.room, ["a", "b"])
        self.assertEqual(told, (("a", "c"), ("a", "d"), ("a", "b", "c", "d")))
        self.assertIs(bar_holds(self.room, ("a", "b")), False)

    def test_section_5(self):
        told = many(self.room), order_at(self.room, 0), number_of(self.room, ("b", "c", "a", "d"))
        self.assertEqual(told, (6, ("a", "b", "c", "d"), 5))
        self.assertEqual((ahead(self.room), last(self.room)), ((("a", "d"), ("b", "d")), ("c", "d")))
        self.assertEqual(swaps(self.room, ("b", "a", "c", "d")), (0, 1, 2))

    def test_section_7(self):
        self.assertEqual(rings(self.room), (("c", ("a", "b")), ("d", ("a",)), ("d", ("b",))))
        self.assertIs(is_free(self.room, ["a", "b"]), True)
        self.assertIs(is_free(self.room, ["a", "b", "c"]), False)

    def test_section_8(self):
        costs = {"a": [5, 4, 0, 0], "b": [3, 3, 3, 3], "c": [9, 9, 1, 1], "d": [7, 7, 7, 2]}
        self.assertEqual((best(self.room, costs), least_worst(self.room, costs)), (("b", "a", "c", "d"), 4))

    def test_section_9(self):
        self.assertEqual(len(lots(tree([("a", "b"), ("b", "c")]))), 7)
        ring = [("a", "b"), ("b", "c"), ("c", "d"), ("d", "a")]
        self.assertEqual(stuck(taken_down(ring)), ("a", "b", "c", "d"))
        self.assertEqual(may(peeled([("a", 0, 0), ("b", 4, 0), ("c", 0, 4), ("m", 1, 1)]), []), ("a", "b", "c"))
        self.assertEqual(many(peeled([("a", 0, 0), ("b", 1, 0), ("c", 2, 0)])), 4)

    def test_section_12(self):
        desk = Desk()
        told = [desk.say(word) for word in ("room a ; b if a", "may", "leave a", "gone", "many", "undo", "last")]
        self.assertEqual(told, ["2", "a", "b", "a", "1", "undone", "b"])

    def test_readme(self):
        failed, tried = doctest.testfile(str(README), module_relative=False)
        self.assertEqual(failed, 0)
        self.assertGreater(tried, 0)


if __name__ == "__main__":
    unittest.main()
