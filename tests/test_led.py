"""Point [19]: rooms that people leave, and in which it can be taken back."""

import unittest
from functools import cache
from random import Random

from leavelots.errors import LeaveError, Refused
from leavelots.led import Led
from leavelots.lots import may
from leavelots.orders import many, order_at
from leavelots.rooms import Room
from tests.values import (any_values, is_sequence, nested, rooms_to_try, rooms_where_nobody_can_leave, slow_may,
                          slow_orders)

ROOM = Room.read("a\nb\nc if a\nc if b\nd if a b")
OTHER = Room.read("x\ny if x\nz if x")


class Failed(Exception):
    """What a block of the tests ends by."""


def standing(led):
    """All that a led room tells of itself."""
    return led.room, led.gone, led.may, led.left, len(led)


@cache
def orders_of(text):
    return slow_orders(Room.read(text))


def left_behind(room, gone):
    """How many orders begin with these."""
    return sum(order[:len(gone)] == tuple(gone) for order in orders_of(str(room)))


class LedTest(unittest.TestCase):
    def stands(self, led, room, gone, deeds):
        """That all is as told, against orders and lots."""
        self.assertIs(led.room, room)
        self.assertEqual(standing(led), (room, tuple(gone), slow_may(room, gone), left_behind(room, gone), deeds))
        self.assertIsInstance(led.gone, tuple)
        self.assertIsInstance(led.may, tuple)

    def refused(self, action, name):
        with self.assertRaises(Refused) as caught:
            action()
        self.assertIs(caught.exception.name, name)

    def led_to(self, *names):
        led = Led(ROOM)
        for name in names:
            led.leave(name)
        return led


class Leaving(LedTest):
    def test_at_first(self):
        for room in rooms_to_try():
            with self.subTest(str(room)):
                self.stands(Led(room), room, (), 0)
                self.assertEqual((Led(room).may, Led(room=room).left), (may(room, ()), many(room)))

    def test_by_hand(self):
        led = Led(ROOM)
        told = [(led.gone, led.may, led.left, len(led))]
        for name in "bacd":
            self.assertIsNone(led.leave(name))
            told.append((led.gone, led.may, led.left, len(led)))
        self.assertEqual(told, [
            ((), ("a", "b"), 6, 0), (("b",), ("a", "c"), 3, 1), (("b", "a"), ("c", "d"), 2, 2),
            (("b", "a", "c"), ("d",), 1, 3), (("b", "a", "c", "d"), (), 1, 4),
        ])

    def test_each_order_to_its_end(self):
        for room in rooms_to_try():
            for at in sorted({0, many(room) // 2, many(room) - 1}):
                led, order = Led(room), order_at(room, at)
                for place, name in enumerate(order):
                    led.leave(name=name)
                    self.stands(led, room, order[:place + 1], place + 1)
                self.assertEqual((led.may, led.left), ((), 1))

    def test_nobody_may_leave(self):
        for room in rooms_where_nobody_can_leave():
            self.stands(Led(room), room, (), 0)
            self.assertEqual(Led(room).left, 1)

    def test_any_value(self):
        for value in any_values() + [nested("a", 8), nested(("a",), 7, tuple), "c", "d", "b "]:
            for led in (self.led_to(), self.led_to("a"), self.led_to("a", "b", "c", "d"), Led(Room())):
                room, gone, deeds = led.room, led.gone, len(led)
                with self.subTest(repr(value), gone=gone):
                    if isinstance(value, str) and value in slow_may(room, gone):
                        led.leave(value)
                        self.stands(led, room, (*gone, value), deeds + 1)
                    else:
                        self.refused(lambda: led.leave(value), value)
                        self.stands(led, room, gone, deeds)

    def test_by_parameter_names(self):
        led = Led(room=ROOM)
        led.leave(name="a")
        led.several(names=["b"])
        self.assertEqual(led.within(work=lambda same: same.gone), ("a", "b"))
        led.follow(room=OTHER)
        self.assertEqual(standing(led), (OTHER, (), ("x",), 2, 3))

    def test_led_rooms_are_apart(self):
        one, other = Led(ROOM), Led(ROOM)
        one.leave("a")
        self.stands(other, ROOM, (), 0)
        other.several(["b", "a"])
        one.undo()
        self.stands(one, ROOM, (), 0)
        self.stands(other, ROOM, ("b", "a"), 1)

    def test_not_iterable(self):
        led = self.led_to("a")
        for action in (lambda: iter(led), lambda: list(led), lambda: "a" in led, lambda: [*led], lambda: reversed(led),
                       lambda: iter(led.trial()), lambda: tuple(led.trial())):
            with self.assertRaises(TypeError):
                action()


class Several(LedTest):
    def test_one_behind_the_other(self):
        for names in (["b", "a", "d", "c"], ("b", "c"), ("a", "b", "d"), ["a"]):
            led = Led(ROOM)
            self.assertIsNone(led.several(names))
            self.stands(led, ROOM, tuple(names), 1)

    def test_one_deed(self):
        led = self.led_to("b")
        led.several(["a", "d"])
        self.stands(led, ROOM, ("b", "a", "d"), 2)
        self.assertIs(led.undo(), True)
        self.stands(led, ROOM, ("b",), 1)

    def test_nobody(self):
        for names in ([], ()):
            for led in (self.led_to(), self.led_to("a", "b"), self.led_to("a", "b", "c", "d")):
                room, gone, deeds = led.room, led.gone, len(led)
                self.assertIsNone(led.several(names))
                self.stands(led, room, gone, deeds)

    def test_first_that_may_not(self):
        for word, at in (("ad", 1), ("da", 0), ("cab", 0), ("abx", 2), ("aba", 2), ("acdb", 2), ("xy", 0),
                         ("abcda", 4)):
            led, names = Led(ROOM), list(word)
            with self.subTest(word):
                self.refused(lambda: led.several(names), names[at])
                self.stands(led, ROOM, (), 0)

    def test_those_who_are_gone_already(self):
        led = self.led_to("a", "c")
        for names, first in ((["a"], "a"), (["b", "c", "d"], "c"), (["b", "d", "a"], "a")):
            self.refused(lambda: led.several(names), first)
            self.stands(led, ROOM, ("a", "c"), 2)

    def test_any_values(self):
        for value in any_values():
            if isinstance(value, str) and value in ROOM.names:
                continue
            with self.subTest(repr(value)):
                led = self.led_to("b")
                for names in ([value], (value, "a"), ["a", value], ("a", "c", "d", value), ["a", value, None, "d"]):
                    self.refused(lambda: led.several(names), value)
                    self.stands(led, ROOM, ("b",), 1)

    def test_sequences_of_any_values(self):
        for value in filter(is_sequence, any_values()):
            led = Led(ROOM)
            gone = []
            for name in value:
                if not isinstance(name, str) or name not in slow_may(ROOM, gone):
                    self.refused(lambda: led.several(value), name)
                    self.stands(led, ROOM, (), 0)
                    break
                gone.append(name)
            else:
                led.several(value)
                self.stands(led, ROOM, gone, 1 if value else 0)

    def test_argument_is_not_kept(self):
        led, names = Led(ROOM), ["a", "b"]
        led.several(names)
        self.assertEqual(names, ["a", "b"])
        names.append("c")
        names[0] = "x"
        self.stands(led, ROOM, ("a", "b"), 1)
        self.assertEqual(led.may, ("c", "d"))


class Following(LedTest):
    def test_all_begins_anew(self):
        led = self.led_to("a", "b")
        self.assertIsNone(led.follow(OTHER))
        self.stands(led, OTHER, (), 3)
        led.several(["x", "z"])
        self.stands(led, OTHER, ("x", "z"), 4)

    def test_an_equal_room_or_the_same(self):
        for room in (Room.read(str(ROOM)), ROOM):
            led = self.led_to("a")
            led.follow(room)
            self.stands(led, room, (), 2)
            led.follow(room)
            self.stands(led, room, (), 3)
            led.undo()
            led.undo()
            self.stands(led, ROOM, ("a",), 1)

    def test_nobody_gone_yet(self):
        led = Led(ROOM)
        led.follow(ROOM)
        self.stands(led, ROOM, (), 1)

    def test_names_that_the_other_room_has_not(self):
        led = self.led_to("a")
        led.follow(OTHER)
        self.refused(lambda: led.leave("b"), "b")
        self.stands(led, OTHER, (), 2)


class Undoing(LedTest):
    def test_back_to_the_start(self):
        led = Led(ROOM)
        stood = []
        for deed in (lambda: led.leave("b"), lambda: led.several(["a", "d"]), lambda: led.follow(OTHER),
                     lambda: led.several(("x",)), lambda: led.leave("z"), lambda: led.follow(ROOM)):
            stood.append(standing(led))
            deed()
        self.assertEqual(len(led), 6)
        for before in reversed(stood):
            self.assertIs(led.undo(), True)
            self.assertEqual(standing(led), before)
            self.assertIs(led.room, before[0])
        for _ in range(3):
            self.assertIs(led.undo(), False)
            self.stands(led, ROOM, (), 0)

    def test_nothing_to_take_back(self):
        for room in (Room(), ROOM, OTHER):
            led = Led(room)
            self.assertIs(led.undo(), False)
            self.stands(led, room, (), 0)

    def test_other_deeds_behind_it(self):
        led = self.led_to("a", "c")
        led.undo()
        led.leave("b")
        self.stands(led, ROOM, ("a", "b"), 2)
        led.undo()
        led.undo()
        self.assertIs(led.undo(), False)
        led.leave("b")
        self.stands(led, ROOM, ("b",), 1)

    def test_what_was_refused_is_no_deed(self):
        led = self.led_to("a")
        self.refused(lambda: led.leave("d"), "d")
        self.refused(lambda: led.several(["b", "x"]), "x")
        self.assertIs(led.undo(), True)
        self.stands(led, ROOM, (), 0)


class Trials(LedTest):
    """What holds for blocks of `trial`."""

    def changes(self):
        """What may be done in a block."""
        def undo_too_often(led):
            for _ in range(9):
                led.undo()

        def back_and_on(led):
            led.undo()
            led.several(["b", "d"])

        def other_room_and_back(led):
            led.follow(OTHER)
            led.several(["x", "y"])
            led.undo()
            led.undo()
            led.undo()

        return [
            lambda led: None, lambda led: led.leave("b"), lambda led: led.several(["b", "d"]), lambda led: led.undo(),
            lambda led: led.follow(OTHER), lambda led: led.follow(Room.read(str(ROOM))), undo_too_often, back_and_on,
            other_room_and_back,
        ]

    def blocks(self, led, change):
        """A change in a block of `trial`, and in one of `within`."""
        def by_trial():
            with led.trial():
                change(led)

        def by_within():
            led.within(change)

        return by_trial, by_within

    def goes_on_as_before(self, led):
        """That also what can be taken back is as it was: a, then c, one by one."""
        self.stands(led, ROOM, ("a", "c"), 2)
        led.leave("b")
        self.stands(led, ROOM, ("a", "c", "b"), 3)
        for gone in (("a", "c"), ("a",), ()):
            self.assertIs(led.undo(), True)
            self.stands(led, ROOM, gone, len(gone))
        self.assertIs(led.undo(), False)

    def test_as_it_was(self):
        for change in self.changes():
            for way in range(2):
                led = self.led_to("a", "c")
                self.blocks(led, change)[way]()
                self.goes_on_as_before(led)

    def test_changes_hold_in_the_block(self):
        led = self.led_to("a")
        with led.trial() as same:
            self.assertIs(same, led)
            self.stands(led, ROOM, ("a",), 1)
            led.several(["b", "d"])
            self.stands(led, ROOM, ("a", "b", "d"), 2)
            led.follow(OTHER)
            self.stands(led, OTHER, (), 3)
            led.undo()
            led.undo()
            led.undo()
            self.stands(led, ROOM, (), 0)
        self.stands(led, ROOM, ("a",), 1)

    def test_errors_go_on(self):
        for change in self.changes():
            for error in (Failed(), ValueError("a"), Refused("b"), KeyError(1), StopIteration(), KeyboardInterrupt()):
                def fails(led, change=change, error=error):
                    change(led)
                    raise error

                for way in range(2):
                    led = self.led_to("a", "c")
                    with self.assertRaises(type(error)) as caught:
                        self.blocks(led, fails)[way]()
                    self.assertIs(caught.exception, error)
                    self.goes_on_as_before(led)

    def test_refused_in_a_block(self):
        def change(led):
            led.leave("b")
            led.leave("a")

        for way in range(2):
            led = self.led_to("a", "c")
            self.refused(self.blocks(led, change)[way], "a")
            self.goes_on_as_before(led)

    def test_caught_within_the_block(self):
        led = self.led_to("a", "c")
        with led.trial():
            with self.assertRaises(LeaveError):
                led.several(["b", "a"])
            self.stands(led, ROOM, ("a", "c"), 2)
            led.leave("b")
        self.goes_on_as_before(led)

    def test_blocks_within_one_another(self):
        led = self.led_to("a", "c")
        with led.trial():
            led.leave("b")
            with led.trial() as same:
                led.follow(OTHER)
                self.assertEqual(same.within(lambda inner: [inner.leave("x"), standing(inner)])[1],
                                 (OTHER, ("x",), ("y", "z"), 2, 5))
                self.stands(led, OTHER, (), 4)
                led.undo()
                led.undo()
                led.undo()
            self.stands(led, ROOM, ("a", "c", "b"), 3)
            with self.assertRaises(Failed), led.trial():
                led.undo()
                raise Failed()
            self.stands(led, ROOM, ("a", "c", "b"), 3)
            self.assertIs(led.undo(), True)
            self.stands(led, ROOM, ("a", "c"), 2)
        self.goes_on_as_before(led)

    def test_as_it_was_when_it_was_entered(self):
        led = Led(ROOM)
        trial = led.trial()
        led.several(["a"])
        led.leave("c")
        with trial as same:
            self.assertIs(same, led)
            self.stands(led, ROOM, ("a", "c"), 2)
            led.leave("b")
        self.goes_on_as_before(led)

    def test_new_each_time(self):
        led = self.led_to("a", "c")
        first, second = led.trial(), led.trial()
        self.assertIsNot(first, second)
        with first:
            led.leave("b")
            with second:
                led.leave("d")
            self.stands(led, ROOM, ("a", "c", "b"), 3)
        self.goes_on_as_before(led)

    def test_a_trial_that_is_not_entered(self):
        led = self.led_to("a", "c")
        led.trial()
        self.goes_on_as_before(led)

    def test_left_by_return(self):
        def look(led):
            with led.trial():
                led.leave("b")
                return led.gone

        led = self.led_to("a", "c")
        self.assertEqual(look(led), ("a", "c", "b"))
        self.goes_on_as_before(led)

    def test_within_returns_what_the_work_returns(self):
        led = self.led_to("a", "c")
        seen = []
        for value in any_values():
            self.assertIs(led.within(lambda same: [seen.append(same), value][1]), value)
        self.assertEqual(len(seen), len(any_values()))
        self.assertTrue(all(same is led for same in seen))
        self.assertIs(led.within(lambda same: same), led)
        self.goes_on_as_before(led)

    def test_within_gets_the_led_room_alone(self):
        led = self.led_to("a", "c")
        self.assertEqual(led.within(lambda *given, **named: (given, named)), ((led,), {}))


class Walks(LedTest):
    def test_walks_of_forty_deeds(self):
        random = Random(19)
        rooms = rooms_to_try()
        for _ in range(60):
            led = Led(random.choice(rooms))
            stood = [(led.room, ())]
            for _ in range(40):
                room, gone = stood[-1]
                deed = random.choice(["leave", "leave", "several", "follow", "undo", "trial"])
                if deed == "undo":
                    self.assertIs(led.undo(), len(stood) > 1)
                    stood = stood[:-1] or stood
                elif deed == "follow":
                    stood.append((random.choice([*rooms, room]), ()))
                    led.follow(stood[-1][0])
                elif deed == "trial":
                    led.within(lambda same: [same.undo(), same.follow(ROOM), same.several(["b", "c"])])
                elif free := slow_may(room, gone):
                    names = [random.choice(free)]
                    if deed == "several":
                        names += random.sample(slow_may(room, gone + tuple(names)), 1 if len(free) > 1 else 0)
                    stood.append((room, gone + tuple(names)))
                    led.leave(names[0]) if deed == "leave" else led.several(names)
                room, gone = stood[-1]
                self.assertIs(led.room, room)
                expected = (room, gone, slow_may(room, gone), left_behind(room, gone), len(stood) - 1)
                self.assertEqual(standing(led), expected)


if __name__ == "__main__":
    unittest.main()
