"""The examples of the document, as far as they need only the modules that are there, and those of README.md."""

import doctest
import unittest
from pathlib import Path

from leavelots.lots import bar_holds, hull, lots, may, stuck
from leavelots.rooms import Room

README = Path(__file__).resolve().parent.parent / "README.md"


class Examples(unittest.TestCase):
    def setUp(self):
        self.room = Room.read("a\nb\nc if a\nc if b\nd if a b")

    def test_section_1(self):
        self.assertEqual((stuck(self.room), len(lots(self.room))), ((), 9))
        self.assertEqual(stuck(Room.read("a if b\nb if a\nc")), ("a", "b"))

    def test_section_4(self):
        told = may(self.room, ["b"]), hull(self.room, ["a"]), hull(self.room, ["a", "b"])
        self.assertEqual(told, (("a", "c"), ("a", "d"), ("a", "b", "c", "d")))
        self.assertIs(bar_holds(self.room, ("a", "b")), False)

    def test_readme(self):
        failed, tried = doctest.testfile(str(README), module_relative=False)
        self.assertEqual(failed, 0)
        self.assertGreater(tried, 0)


if __name__ == "__main__":
    unittest.main()
