"""Point [18]: comparing rooms, and mending them."""

import unittest
from random import Random

from leavelots.comparing import alike, beside, needless, no_freer, parting, plain
from leavelots.errors import InvalidName
from leavelots.lots import lots, may
from leavelots.reasons import reasons
from leavelots.rooms import Room
from leavelots.rules import Rule
from tests.values import random_room, rooms_to_try, rooms_where_nobody_can_leave, slow_lots, slow_may, slow_reasons

ROOM = Room.read("a\nb\nc if a\nc if b\nd if a b")


def pairs_to_try():
    """Rooms and what was changed in them: a rule less, a rule more, the rules turned about, mended ones, others."""
    random = Random(18)
    some = rooms_to_try()
    pairs = [(room, room.without(at)) for room in some for at in range(0, len(room), 1 + len(room) // 4)]
    pairs += [(room, room + random_room(random, room.names, 1)) for room in some if room.names]
    pairs += [(room, Room(room.rules[::-1])) for room in some] + [(room, plain(room)) for room in some]
    pairs += [(room, random.choice(some)) for room in some for _ in range(4)]
    names = "abcde"
    pairs += [[random_room(random, names[:size], size + more) for _ in range(2)]
              for size in (2, 3, 4, 5) for more in (0, 2, 5) for _ in range(12)]
    return [pair[::random.choice((1, -1))] for pair in pairs]


def slow_levels(room):
    """For each length the tuples of so many names who can leave one behind the other."""
    level = {()}
    while level:
        yield level
        level = {order + (name,) for order in level for name in slow_may(room, order)}


def slow_partings(p, q):
    """All shortest tuples of names who can leave in this order in one of both rooms alone."""
    first, second = list(slow_levels(p)), list(slow_levels(q))
    for many in range(max(len(first), len(second))):
        if found := (first[many] if many < len(first) else set()) ^ (second[many] if many < len(second) else set()):
            return found
    return None


class Alike(unittest.TestCase):
    def test_by_hand(self):
        for one, other, expected in (
            ("a\nb", "b\na", True), ("a\na", "a", True), ("a\nb if a", "a\nb", False), ("", "", True),
            ("a\nb if a\nb if a c", "a\nb if a", True), ("a\nb if a", "b\na if b", False), ("a", "b", False),
            ("", "a", False), ("a", "a\na if b", True), ("a\nb if a\nc if b", "a\nb if a\nc if a b", True),
        ):
            with self.subTest(one, other=other):
                self.assertIs(alike(Room.read(one), Room.read(other)), expected)
                self.assertIs(alike(Room.read(other), Room.read(one)), expected)

    def test_rules_and_names_of_nobody_who_can_leave(self):
        for text in ("", "a if b", "x if y\ny if x", "z if a b"):
            self.assertIs(alike(Room.read(text), Room()), True)
            self.assertIs(alike(ROOM + Room.read("x if y\ny if x"), ROOM), True)
        self.assertIs(alike(Room.read("a\nb if c"), Room.read("a\nc if b")), True)

    def test_whoever_never_leaves_in_one(self):
        self.assertIs(alike(Room.read("a\nb if a\nc if d"), Room.read("a\nb if a\nc if b")), False)

    def test_against_lots(self):
        seen = set()
        for p, q in pairs_to_try():
            with self.subTest(str(p), q=str(q)):
                self.assertIs(alike(p, q), slow_lots(p) == slow_lots(q))
                seen.add(alike(p, q))
        self.assertEqual(seen, {True, False})

    def test_by_parameter_names(self):
        self.assertIs(alike(p=ROOM, q=Room(ROOM.rules[::-1])), True)


class NoFreer(unittest.TestCase):
    def test_by_hand(self):
        for one, other, there, back in (
            ("", "a", True, False), ("a\nb if a", "a\nb", True, False), ("a", "b", False, False),
            ("a\nb if a", "b\na if b", False, False), ("a if b", "", True, True), ("a\na", "a", True, True),
            ("a\nb\nc if a", "a\nb\nc if a\nc if b", True, False),
        ):
            with self.subTest(one, other=other):
                self.assertIs(no_freer(Room.read(one), Room.read(other)), there)
                self.assertIs(no_freer(Room.read(other), Room.read(one)), back)

    def test_against_lots(self):
        seen = set()
        for p, q in pairs_to_try():
            with self.subTest(str(p), q=str(q)):
                self.assertIs(no_freer(p, q), set(slow_lots(p)) <= set(slow_lots(q)))
                self.assertIs(no_freer(p=q, q=p), set(slow_lots(q)) <= set(slow_lots(p)))
                seen.add((no_freer(p, q), no_freer(q, p)))
        self.assertEqual(len(seen), 4)


class Parting(unittest.TestCase):
    def test_by_hand(self):
        for one, other, expected in (
            ("a", "", ("a",)), ("a\nb if a", "a", ("a", "b")), ("a\nb if a\nc if a b", "a\nb if a", ("a", "b", "c")),
            ("a\nb if a\nc if b", "a\nb if a\nc if b d", ("a", "b", "c")),
            ("a\nb if a\nc if a", "a\nb if a\nc", ("c",)),
        ):
            with self.subTest(one, other=other):
                self.assertEqual(parting(Room.read(one), Room.read(other)), expected)
                self.assertEqual(parting(q=Room.read(one), p=Room.read(other)), expected)

    def test_shortest_of_both(self):
        p, q = Room.read("a\nb if a\nc if b\nd"), Room.read("a\nb if a\nd if a b")
        self.assertEqual((parting(p, q), parting(q, p)), (("d",), ("d",)))

    def test_none_if_alike(self):
        self.assertIsNone(parting(Room(), Room()))
        for room in rooms_to_try():
            self.assertIsNone(parting(room, plain(room)))
            self.assertIsNone(parting(room + Room.read("q if r"), room))

    def test_against_a_search(self):
        small = [(p, q) for p, q in pairs_to_try() if max(len(p.names), len(q.names)) < 7]
        self.assertGreater(len(small), 150)
        lengths = set()
        for p, q in small:
            with self.subTest(str(p), q=str(q)):
                found = slow_partings(p, q)
                for told in (parting(p, q), parting(q, p)):
                    if found is None:
                        self.assertIsNone(told)
                    else:
                        self.assertIn(told, found)
                        lengths.add(len(told))
        self.assertLessEqual({1, 2, 3}, lengths)

    def test_seven_names_against_lots(self):
        """The lots of the names but the last can be gone in both, all together in one alone; none of fewer names."""
        for p, q in pairs_to_try():
            with self.subTest(str(p), q=str(q)):
                told, first, second = parting(p, q), slow_lots(p), slow_lots(q)
                apart = set(first) ^ set(second)
                if told is None:
                    self.assertFalse(apart)
                    continue
                self.assertEqual(len(told), min(len(lot) for lot in apart))
                self.assertIn(tuple(sorted(told)), apart)
                room = p if tuple(sorted(told)) in first else q
                for at, name in enumerate(told):
                    self.assertIn(name, slow_may(room, told[:at]))


class Needless(unittest.TestCase):
    def test_by_hand(self):
        for text, expected in (
            ("", ()), ("a", ()), ("a\nb\nc if a\nc if b\nd if a b", ()), ("a\na", (0, 1)), ("a\na\na", (0, 1, 2)),
            ("a if b", (0,)), ("a if b\nb if a\nc", (0, 1)), ("a\na if b\nb", (1,)), ("a if b\na\nb", (0,)),
            ("a\nb if a\nb if a c\nc", (2,)), ("a\nb if a\nc if b\nc if a b", (2, 3)),
            ("a\nb if a\nb if c\nc if b", (2,)),
            ("a\nb\nc if a\nc if b\nd if c\nd if a b", ()), ("a\nb if z", (1,)),
        ):
            with self.subTest(text):
                self.assertEqual(needless(Room.read(text)), expected)

    def test_against_alike(self):
        for room in rooms_to_try() + [one for one, _ in pairs_to_try()]:
            with self.subTest(str(room)):
                told = slow_lots(room)
                expected = tuple(at for at in range(len(room)) if slow_lots(room.without(at)) == told)
                self.assertEqual(needless(room=room), expected)
                self.assertEqual(expected, tuple(at for at in range(len(room)) if alike(room.without(at), room)))

    def test_rules_twice_are_needless_each_alone(self):
        for room in rooms_to_try():
            self.assertEqual(needless(room + room), tuple(range(2 * len(room))))


class Plain(unittest.TestCase):
    def test_by_hand(self):
        for text, expected in (
            ("d if a b\nc if b\nc if a\nb\na", "a\nb\nc if a\nc if b\nd if a b"), ("a if b\nb if a", ""), ("", ""),
            ("c if b\nb if a\na\nx if y", "a\nb if a\nc if a b"), ("a\na\na if b", "a"),
        ):
            with self.subTest(text):
                self.assertEqual(str(plain(Room.read(text))), expected)

    def test_rules_in_the_order_of_the_reasons(self):
        for room in rooms_to_try():
            with self.subTest(str(room)):
                told = plain(room=room)
                self.assertIsInstance(told, Room)
                self.assertEqual([(rule.name, tuple(sorted((rule.name, *rule.gone)))) for rule in told.rules],
                                 list(slow_reasons(room)))
                self.assertEqual(reasons(told), reasons(room))

    def test_alike(self):
        for room in rooms_to_try():
            self.assertIs(alike(plain(room), room), True)
            self.assertEqual(slow_lots(plain(room)), slow_lots(room))

    def test_plain_again(self):
        for room in rooms_to_try():
            self.assertEqual((plain(plain(room)), needless(plain(room))), (plain(room), ()))


class Beside(unittest.TestCase):
    def renamed(self, room):
        """The same room with other names."""
        other = {name: f"q{'abcdefg'[at]}" for at, name in enumerate(room.names)}
        return Room([Rule(other[rule.name], [other[name] for name in rule.gone]) for rule in room.rules])

    def test_by_hand(self):
        room = beside(Room.read("a\nb if a"), Room.read("y if x\nx"))
        self.assertEqual((room.names, may(room, []), may(room, ["x"])), (("a", "b", "x", "y"), ("a", "x"), ("a", "y")))

    def test_lots_are_those_of_both_together(self):
        for p, q in zip(rooms_to_try(), rooms_to_try()[1:]):
            q = self.renamed(q)
            with self.subTest(str(p), q=str(q)):
                room = beside(p=p, q=q)
                self.assertEqual(room.names, tuple(sorted(p.names + q.names)))
                expected = sorted(tuple(sorted(one + other)) for one in slow_lots(p) for other in slow_lots(q))
                self.assertEqual(lots(room), tuple(expected))

    def test_empty_rooms(self):
        self.assertEqual(beside(Room(), Room()).names, ())
        self.assertEqual(lots(beside(ROOM, Room())), lots(ROOM))
        self.assertEqual(lots(beside(Room(), ROOM)), lots(ROOM))

    def test_stuck_people_go_with_them(self):
        for room in rooms_where_nobody_can_leave():
            told = beside(room, self.renamed(ROOM))
            self.assertEqual(told.names, tuple(sorted(room.names + self.renamed(ROOM).names)))
            self.assertEqual(lots(told), lots(self.renamed(ROOM)))

    def test_first_common_name(self):
        for one, other, name in (
            ("a\nb", "b\na", "a"), ("z\nc if b", "z\nb", "b"), ("x if c", "y if c", "c"), ("a\nzz\nz", "zz\nz\nb", "z"),
            ("d\nab\nb", "c\nb\nab", "ab"), ("c\nb\na", "c", "c"),
        ):
            with self.subTest(one, other=other):
                for p, q in ((one, other), (other, one)):
                    p, q = Room.read(p), Room.read(q)
                    with self.assertRaises(InvalidName) as caught:
                        beside(p, q)
                    self.assertEqual(caught.exception.name, name)
        for room in rooms_to_try():
            if room.names:
                with self.assertRaises(InvalidName) as caught:
                    beside(room, room)
                self.assertEqual(caught.exception.name, min(room.names))

    def test_rooms_stay_as_they_are(self):
        p, q = Room.read("a\nb if a"), Room.read("c\nb")
        with self.assertRaises(InvalidName):
            beside(p, q)
        beside(p, Room.read("x"))
        self.assertEqual((str(p), str(q), p.names), ("a\nb if a", "c\nb", ("a", "b")))

    def test_what_it_returned_may_be_passed_on(self):
        seven = Room.read("a\nb\nc if a b\nd if c\nd if a\ne if d\nf\ng if f e")
        room = beside(seven, self.renamed(seven))
        self.assertEqual(len(room.names), 14)
        self.assertIs(alike(room, beside(self.renamed(seven), seven)), True)
        self.assertIs(no_freer(seven, room), True)
        self.assertEqual(len(parting(room, seven)), 1)
        self.assertEqual(needless(room), tuple(at + more for more in (0, 8) for at in needless(seven)))
        self.assertIs(alike(plain(room), room), True)


if __name__ == "__main__":
    unittest.main()
