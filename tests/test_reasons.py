"""Points [11] and [12]: reasons, and the orders that tell a room."""

import unittest
from itertools import combinations, permutations
from random import Random

from leavelots.errors import InvalidOrder
from leavelots.lots import lots, stuck
from leavelots.orders import is_order, many, order_at
from leavelots.reasons import apart, fewest, reasons, tells, told_by
from leavelots.rooms import Room
from leavelots.rules import Rule
from tests.values import (any_values, is_name, is_sequence, nested, random_order, random_room, rooms_to_try,
                          rooms_where_nobody_can_leave, slow_lots, slow_number_wrong, slow_orders, slow_reasons,
                          slow_told)

ROOM = Room.read("a\nb\nc if a\nc if b\nd if a b")
HALF_STUCK = Room.read("a if b\nb if a\nc\nd if c e\nf if c\ng")
FREE = Room.read("a\nb\nc\nd\ne\nf\ng")


def unlike_names(value):
    return is_sequence(value) and all(is_name(name) for name in value) and len(set(value)) == len(value)


def slow_no_orders(value):
    """What `InvalidOrder` of `told_by` tells of any value, None if it raises none."""
    if not is_sequence(value):
        return 0
    for at, order in enumerate(value):
        if not unlike_names(order) or set(order) != set(value[0]):
            return at
    return None


def pairs_of(text):
    """`c ac` for ("c", ("a", "c")), several parted by commas."""
    words = [word.split(" ") for word in text.split(", ")]
    return tuple((name, tuple(lot)) for name, lot in words)


class Reasons(unittest.TestCase):
    def test_by_hand(self):
        self.assertEqual(reasons(ROOM), pairs_of("a a, b b, c ac, c bc, d abd"))
        self.assertEqual(reasons(room=HALF_STUCK), pairs_of("c c, f cf, g g"))
        self.assertEqual(reasons(Room.read("c\nb if c\na if b")), pairs_of("a abc, b bc, c c"))
        self.assertEqual(reasons(FREE), pairs_of("a a, b b, c c, d d, e e, f f, g g"))

    def test_rules_that_are_of_no_use(self):
        self.assertEqual(reasons(Room.read("a\na if b\nb if a\nb if a c\nc if a\nc if b")), pairs_of("a a, b ab, c ac"))
        room = Room.read("a\nb if a\nc if b a\nc if d\nd if c")
        self.assertEqual(reasons(room), pairs_of("a a, b ab, c abc, d abcd"))

    def test_more_reasons_than_rules(self):
        room = Room.read("a\nb\nc\ng\nd if a\nd if b\ne if c\ne if g\nf if d e")
        some = pairs_of("a a, b b, c c, d ad, d bd, e ce, e eg, f acdef, f adefg, f bcdef, f bdefg, g g")
        self.assertEqual(reasons(room), some)

    def test_a_union_of_reasons_that_has_another_one_in_it(self):
        room = Room.read("a\nb\nc\nd if a\nd if b\ne if c\ne if b\nf if d e")
        self.assertEqual(reasons(room), pairs_of("a a, b b, c c, d ad, d bd, e be, e ce, f acdef, f bdef"))

    def test_nobody_can_leave(self):
        for room in rooms_where_nobody_can_leave():
            self.assertEqual(reasons(room), ())

    def test_against_all_lots(self):
        for room in rooms_to_try():
            told = reasons(room)
            self.assertEqual(told, slow_reasons(room), str(room))
            self.assertIsInstance(told, tuple)

    def test_all_lots_are_unions_of_them(self):
        for room in rooms_to_try():
            found = {frozenset()}
            for name, reason in reasons(room):
                found |= {lot | frozenset(reason) for lot in found}
            self.assertEqual(tuple(sorted(tuple(sorted(lot)) for lot in found)), lots(room), str(room))


class FewestAndApart(unittest.TestCase):
    def check(self, room):
        """Orders that tell the room, and as many reasons apart: so neither fewer orders nor more reasons can do."""
        some, lone = fewest(room), apart(room)
        self.assertIsInstance(some, tuple)
        self.assertIsInstance(lone, tuple)
        self.assertEqual(len(some), len(lone), str(room))
        for order in some:
            self.assertIsInstance(order, tuple)
            self.assertIsNone(slow_number_wrong(room, order), (str(room), order))
        self.assertEqual(slow_told(some), slow_lots(room), str(room))
        self.assertIs(tells(room, some), True)
        known = [reason for name, reason in slow_reasons(room)]
        for reason in lone:
            self.assertIsInstance(reason, tuple)
            self.assertIn(reason, known)
        for one, other in combinations(lone, 2):
            self.assertFalse(set(one) <= set(other) or set(other) <= set(one), (str(room), lone))
        return len(some)

    def test_by_hand(self):
        self.assertEqual(self.check(ROOM), 3)
        self.assertEqual(self.check(HALF_STUCK), 2)
        self.assertEqual(self.check(FREE), 7)
        self.assertEqual(self.check(Room.read("c\nb if c\na if b")), 1)
        self.assertEqual(fewest(room=Room.read("c\nb if c\na if b")), (("c", "b", "a"),))
        self.assertEqual(len(apart(room=Room.read("c\nb if c\na if b"))), 1)
        self.assertEqual(sorted(apart(Room.read("a\nb"))), [("a",), ("b",)])

    def test_where_the_first_link_must_be_undone(self):
        # What comes first to hand may take the only one that is left for somebody else.
        self.assertEqual(self.check(Room.read("a\nb\nc if a\nd if a b")), 2)
        self.assertEqual(self.check(Room.read("a\nb\nc\nd if a b\ne if a\nf if b c\ng if c")), 4)
        self.assertEqual(self.check(Room.read("a\nb\nc\nd if c\ne if b c\nf if a b")), 3)
        self.assertEqual(self.check(Room.read("a\nb\nc\nd\ne if a b c d\nf if a b c\ng if a b")), 4)

    def test_many_orders(self):
        some = [Rule("g", lot) for lot in combinations("abcdef", 3)]
        room = Room([Rule(name) for name in "abcdef"] + some)
        self.assertEqual(self.check(room), 20)

    def test_nobody_can_leave(self):
        for room in rooms_where_nobody_can_leave():
            self.assertEqual((fewest(room), apart(room)), ((), ()))

    def test_rooms_to_try(self):
        for room in rooms_to_try():
            self.check(room)

    def test_many_rooms(self):
        random = Random(12)
        for _ in range(300):
            names = list("abcdefg")[:random.randint(3, 7)]
            free = [Rule(name) for name in random.sample(names, random.randint(1, 3))]
            room = Room(free) + random_room(random, names, random.randint(0, 12))
            self.check(room)

    def test_rooms_that_orders_told(self):
        random = Random(13)
        for _ in range(100):
            names = "abcdefg"[:random.randint(1, 7)]
            orders = [random.sample(names, len(names)) for _ in range(random.randint(1, 5))]
            self.assertLessEqual(self.check(told_by(orders)), len(orders))

    def test_rooms_that_were_put_together(self):
        double = ROOM + Room.read("e\nf\ng if e\ng if f\nh if e f") + Room.read("z if y")
        self.assertEqual((len(fewest(double)), len(apart(double))), (6, 6))
        self.assertIs(tells(double, fewest(double)), True)


class Tells(unittest.TestCase):
    def test_by_hand(self):
        for texts, told in ((("acbd", "bcad", "abdc"), True), (("acbd", "bcad", "badc"), True),
                            (("acbd", "bcad"), False), (("acbd", "abdc"), False), (("abcd",), False), ((), False),
                            (("abcd", "abdc", "acbd", "bacd", "badc", "bcad"), True)):
            with self.subTest(texts):
                self.assertIs(tells(ROOM, [tuple(text) for text in texts]), told)
                self.assertIs(tells(room=ROOM, orders=tuple(list(text) for text in texts)), told)
        self.assertIs(tells(HALF_STUCK, (("c", "f", "g"), ["g", "c", "f"])), True)
        self.assertIs(tells(HALF_STUCK, (("c", "f", "g"), ["c", "g", "f"])), False)

    def test_some_twice(self):
        self.assertIs(tells(ROOM, [tuple("acbd"), tuple("bcad"), tuple("abdc"), tuple("acbd")]), True)
        self.assertIs(tells(ROOM, [tuple("acbd"), tuple("acbd"), tuple("acbd")]), False)

    def test_no_orders(self):
        for room in rooms_where_nobody_can_leave():
            self.assertIs(tells(room, ()), True)
            self.assertIs(tells(room, []), True)
            self.assertIs(tells(room, [()]), True)
        for room in (ROOM, HALF_STUCK, FREE, Room.read("a")):
            self.assertIs(tells(room, ()), False)
            self.assertIs(tells(room, []), False)

    def test_wrong_orders(self):
        good = tuple("acbd")
        for bad in (None, "acbd", 0, True, (), [], ("a",), tuple("cabd"), tuple("acbdd"), tuple("acba"), tuple("acbx"),
                    ["a", "c", "b", None], nested("a", 7), ROOM, Rule("a"), [good]):
            for orders, at in (([bad], 0), ((bad, good), 0), ([good, bad], 1), ((good, list(good), bad, bad, good), 2)):
                with self.subTest(orders=orders):
                    with self.assertRaises(InvalidOrder) as told:
                        tells(ROOM, orders)
                    self.assertEqual(told.exception.at, at)

    def test_any_value_in_it(self):
        for room in (ROOM, Room(), Room.read("a"), Room.read("a\nb")):
            good = order_at(room, 0)
            for value in any_values():
                if is_order(room, value):
                    self.assertIs(tells(room, [good, value]), many(room) == 1 or tuple(value) != good)
                    continue
                with self.assertRaises(InvalidOrder) as told:
                    tells(room, [good, value])
                self.assertEqual(told.exception.at, 1)

    def test_orders_for_nobody(self):
        with self.assertRaises(InvalidOrder) as told:
            tells(Room.read("a if b"), [(), ("a",)])
        self.assertEqual(told.exception.at, 1)

    def test_against_all_unions(self):
        random = Random(14)
        for room in rooms_to_try():
            for size in (0, 1, 2, 3, 5, 8):
                orders = [random_order(random, room) for _ in range(size)]
                self.assertIs(tells(room, orders), slow_told(orders) == slow_lots(room), (str(room), orders))

    def test_one_fewer_does_not_do(self):
        for room in rooms_to_try():
            some = fewest(room)
            for at in range(len(some)):
                self.assertIs(tells(room, some[:at] + some[at + 1:]), False)

    def test_all_orders_do(self):
        for room in rooms_to_try():
            if many(room) <= 24:
                self.assertIs(tells(room, slow_orders(room)), True)


class ToldBy(unittest.TestCase):
    def check(self, orders):
        room = told_by(orders)
        self.assertIsInstance(room, Room)
        self.assertEqual(room.names, tuple(sorted(orders[0])) if orders else ())
        self.assertEqual(lots(room), slow_told(orders), orders)
        self.assertEqual(stuck(room), ())
        self.assertIs(tells(room, orders), True)

    def test_by_hand(self):
        self.check([("a",)])
        self.check((["b", "a"],))
        self.check([("a", "b"), ["b", "a"]])
        self.check([("a", "b", "c"), ("c", "b", "a")])
        self.check([tuple("acbd"), tuple("bcad"), tuple("abdc")])
        self.check([("zz", "abc", "z"), ("abc", "z", "zz")])
        self.assertEqual(lots(told_by(orders=[tuple("acbd"), tuple("bcad"), tuple("abdc")])), lots(ROOM))

    def test_no_orders_and_orders_of_no_names(self):
        for orders in ((), [], [()], ((), []), [[], [], ()]):
            self.check(orders)
            self.assertEqual(len(told_by(orders)), 0)

    def test_some_twice(self):
        self.check([("a", "b"), ("a", "b")])
        self.check([("a", "b", "c")] * 8)

    def test_all_orders_of_three(self):
        everything = list(permutations("abc"))
        for size in range(4):
            for orders in combinations(everything, size):
                self.check(orders)
        self.check(everything)

    def test_orders_by_lot(self):
        random = Random(15)
        for _ in range(60):
            names = ["a", "b", "c", "ab", "abc", "z", "fi"][:random.randint(1, 7)]
            self.check([random.sample(names, len(names)) for _ in range(random.randint(1, 8))])

    def test_the_orders_of_a_room_tell_it_back(self):
        for room in rooms_to_try():
            self.assertEqual(lots(told_by(fewest(room))), lots(room), str(room))

    def test_wrong_orders(self):
        good = ("a", "b", "c")
        for bad in (None, "abc", 0, False, ("a", "a"), ("a", "b", "b"), ("a", "if"), ["A"], ["abcd"], [""], [None],
                    [good], nested("a", 2), nested("a", 7), ["a", 1], Rule("a"), ROOM):
            for orders, at in (([bad], 0), ((bad, good), 0), ([good, bad], 1), ((good, list(good), bad, bad, good), 2)):
                with self.subTest(orders=orders):
                    with self.assertRaises(InvalidOrder) as told:
                        told_by(orders)
                    self.assertEqual(told.exception.at, at)

    def test_other_names_than_the_first(self):
        for orders, at in (([("a", "b"), ("a",)], 1), ([("a",), ("a", "b")], 1), ([("a", "b"), ("b", "c")], 1),
                           ([("a",), ()], 1), ([(), (), ("a",)], 2),
                           ([("a", "b"), ["b", "a"], ("b", "a", "b"), ()], 2)):
            with self.subTest(orders=orders):
                with self.assertRaises(InvalidOrder) as told:
                    told_by(orders)
                self.assertEqual(told.exception.at, at)

    def test_any_value(self):
        values = any_values()
        for value in values + [[value] for value in values] + [(("a",), value) for value in values]:
            wrong = slow_no_orders(value)
            if wrong is None:
                self.check(value)
                continue
            with self.assertRaises(InvalidOrder) as told:
                told_by(value)
            self.assertEqual(told.exception.at, wrong, value)

    def test_arguments_are_not_kept(self):
        orders = [["a", "b"], ["b", "a"]]
        room = told_by(orders)
        self.assertEqual(orders, [["a", "b"], ["b", "a"]])
        orders[0].reverse()
        orders.append(["c"])
        self.assertEqual(lots(room), ((), ("a",), ("a", "b"), ("b",)))


if __name__ == "__main__":
    unittest.main()
