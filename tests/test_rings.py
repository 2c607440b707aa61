"""Point [13]: rings of people who keep somebody waiting, and those who can leave in any order among themselves."""

import unittest
from itertools import combinations
from random import Random

from leavelots.lots import stuck
from leavelots.reasons import reasons
from leavelots.rings import is_free, rings
from leavelots.rooms import Room
from leavelots.rules import Rule
from tests.values import (any_values, is_name, is_sequence, nested, rooms_to_try, rooms_where_nobody_can_leave,
                          slow_lots, slow_rings, slow_stuck, subsets)

ROOM = Room.read("a\nb\nc if a\nc if b\nd if a b")
HALF_STUCK = Room.read("a if b\nb if a\nc\nd if c e\nf if c\nf if a\ng")


def slow_is_free(room, value):
    """Whether each one of any value is in a lot that can be gone while the rest of it is still there."""
    if not is_sequence(value) or not all(is_name(name) for name in value):
        return False
    known = set(room.names) - set(slow_stuck(room))
    if len(set(value)) != len(value) or not set(value) <= known:
        return False
    can_be_gone = [set(lot) for lot in slow_lots(room)]
    return all(any(gone & set(value) == {name} for gone in can_be_gone) for name in value)


def pairs_of(text):
    """`c ab` for ("c", ("a", "b")), several parted by commas."""
    words = [word.split(" ") for word in text.split(", ")]
    return tuple((name, tuple(lot)) for name, lot in words)


class Rings(unittest.TestCase):
    def test_by_hand(self):
        self.assertEqual(rings(ROOM), pairs_of("c ab, d a, d b"))
        self.assertEqual(rings(room=HALF_STUCK), pairs_of("f c"))
        self.assertEqual(rings(Room.read("c\nb if c\na if b")), pairs_of("a b, a c, b c"))

    def test_several_names(self):
        self.assertEqual(rings(Room.read("a\nb\nc\nd if a\nd if b\nd if c")), pairs_of("d abc"))
        self.assertEqual(rings(Room.read("a\nb\nc\nd\ne if a b\ne if c d")), pairs_of("e ac, e ad, e bc, e bd"))
        self.assertEqual(rings(Room.read("a\nb\nc\nd if a b\nd if b c\nd if a c")), pairs_of("d ab, d ac, d bc"))
        some = [Rule(name) for name in "abcdef"] + [Rule("g", lot) for lot in combinations("abcdef", 3)]
        self.assertEqual(rings(Room(some)), tuple(("g", lot) for lot in combinations("abcdef", 4)))

    def test_those_who_do_not_stand_in_a_rule(self):
        self.assertEqual(rings(Room.read("a\nb\nc if a\nc if b\nd if c")), pairs_of("c ab, d ab, d c"))

    def test_who_has_none(self):
        self.assertEqual(rings(Room.read("a\nb\nc")), ())
        self.assertEqual(rings(Room.read("a\na if b\nb if a\nb")), ())
        for room in rooms_where_nobody_can_leave():
            self.assertEqual(rings(room), ())

    def test_nobody_stuck_in_them(self):
        self.assertEqual(rings(Room.read("a\nb if a\nb if z\nc if z\nc if b")), pairs_of("b a, c a, c b"))

    def test_against_all_lots(self):
        for room in rooms_to_try():
            told = rings(room)
            self.assertEqual(told, slow_rings(room), str(room))
            self.assertIsInstance(told, tuple)

    def test_a_ring_meets_all_reasons(self):
        for room in rooms_to_try():
            for name, ring in rings(room):
                self.assertNotIn(name, ring)
                self.assertFalse(set(ring) & set(stuck(room)))
                for other, reason in reasons(room):
                    self.assertTrue(other != name or set(ring) & set(reason), (str(room), name, ring))

    def test_rooms_that_were_put_together(self):
        double = ROOM + Room.read("e\nf\ng if e\ng if f\nh if e f\nh if z")
        self.assertEqual(rings(double), pairs_of("c ab, d a, d b, g ef, h e, h f"))
        self.assertIs(is_free(double, ["a", "h", "b"]), True)


class IsFree(unittest.TestCase):
    def test_by_hand(self):
        for text, told in (("", True), ("a", True), ("d", True), ("ab", True), ("ba", True), ("ac", True),
                           ("abc", False), ("cab", False), ("bd", False), ("cd", True), ("acd", False)):
            with self.subTest(text):
                self.assertIs(is_free(ROOM, tuple(text)), told)
                self.assertIs(is_free(room=ROOM, value=list(text)), told)

    def test_those_who_are_stuck(self):
        self.assertIs(is_free(HALF_STUCK, ["c", "g"]), True)
        self.assertIs(is_free(HALF_STUCK, ["f", "g"]), True)
        self.assertIs(is_free(HALF_STUCK, ["c", "f"]), False)
        for names in ("a", "ab", "d", "cd", "ga", "e"):
            self.assertIs(is_free(HALF_STUCK, list(names)), False)

    def test_no_names_unlike_names_and_strangers(self):
        for room in [*rooms_where_nobody_can_leave(), ROOM, HALF_STUCK]:
            self.assertIs(is_free(room, ()), True)
            self.assertIs(is_free(room, []), True)
            for value in (["x"], ["g", "x"], ["a", "a"], ("c", "g", "c"), ["if"], None, "", "a", 0, room):
                self.assertIs(is_free(room, value), False, (str(room), value))

    def test_wrong_values(self):
        for value in (["a", None], ["a", ["b"]], [["a"]], nested("a", 8), ("a", Rule("b")), ("a", 0), [()], True):
            self.assertIs(is_free(ROOM, value), False)

    def test_any_value(self):
        for room in (ROOM, HALF_STUCK, Room(), Room.read("a"), Room.read("a\nb"), Room.read("a\nb if a")):
            for value in any_values():
                self.assertIs(is_free(room, value), slow_is_free(room, value), (str(room), value))

    def test_against_all_lots(self):
        random = Random(16)
        for room in rooms_to_try():
            for names in subsets(room.names):
                given = random.sample(list(names), len(names))
                before = list(given)
                self.assertIs(is_free(room, given), slow_is_free(room, names), (str(room), names))
                self.assertEqual(given, before)

    def test_no_ring_within_the_rest(self):
        for room in rooms_to_try():
            held = [{name, *ring} for name, ring in rings(room)]
            for names in subsets([name for name in room.names if name not in stuck(room)]):
                told = not any(lot <= set(names) for lot in held)
                self.assertIs(is_free(room, names), told, (str(room), names))


if __name__ == "__main__":
    unittest.main()
