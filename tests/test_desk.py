"""Points [20] and [21]: desks."""

import unittest
from random import Random

from leavelots.desk import Desk
from leavelots.errors import InvalidCommand, InvalidText, NoOrder, Refused
from leavelots.lots import may, stuck
from leavelots.orders import last, many, order_at
from leavelots.reasons import fewest
from leavelots.rooms import Room
from tests.values import any_values, nested, rooms_to_try

TEXT = "a ; b ; c if a ; c if b ; d if a b"
QUESTIONS = ("may", "gone", "stuck", "last", "many", "fewest", "order 0")
NO_COMMANDS = [
    "", " ", "  ", " may", "may ", "  may", "may  ", "\n", "may\n", "\nmay", "room a\nb", "room a ; b\n", "leave a\n",
    "leave\na", "order 0\n", "room", "room ", " room a", "room  a", "room a ", "room a  ; b", "room a ;  b", "room  ",
    "leave", "leave ", "leave  a", "leave a b", "leave a ", "leave a ; b", "order", "order ", "order 0 1", "order  0",
    "order 00", "order 01", "order 000001", "order 1000000", "order 0000000", "order 9999999", "order -1", "order +1",
    "order -0", "order 1.0", "order 1_0", "order a", "order none", "order 0x1", "order 1e3", "order \u0663",
    "order \u00b2", "order \t1", "may a", "gone a", "stuck a", "last a", "many 1", "fewest 1", "undo 1", "undo undo",
    "may may", "May", "MAY", "ROOM a", "rooms a", "a", "a if b", "help", "none", "nothing", "undone", "led", "say may",
    "may;", "may ; gone", "; may", "\tmay", "may\t", "lots", "several a b", "follow a", "trial", "len", "0",
    "leave: a", "Room a",
]


def names_told(names):
    return " ".join(names) or "none"


def answers(desk):
    """What a desk tells of itself, without a change."""
    return [desk.say(question) for question in QUESTIONS] + [len(desk)]


class DeskTest(unittest.TestCase):
    def desk_after(self, *commands):
        desk = Desk()
        for command in commands:
            desk.say(command)
        return desk

    def tells(self, desk, room, gone, deeds):
        """That the questions are answered as the functions of the other modules answer them."""
        expected = [names_told(may(room, gone)), names_told(gone), names_told(stuck(room)), names_told(last(room)),
                    str(many(room)), str(len(fewest(room))), names_told(order_at(room, 0)), deeds]
        self.assertEqual(answers(desk), expected)

    def raises(self, desk, command, error, *attributes):
        """That the error comes with its attribute and nothing has changed behind it."""
        before = answers(desk)
        with self.assertRaises(error) as caught:
            desk.say(command)
        self.assertEqual(list(vars(caught.exception).values()), list(attributes))
        self.assertEqual(answers(desk), before)


class Rooms(DeskTest):
    def test_no_rules_at_first(self):
        self.assertEqual(answers(Desk()), ["none", "none", "none", "none", "1", "0", "none", 0])
        self.tells(Desk(), Room(), (), 0)
        self.raises(Desk(), "leave a", Refused, "a")
        self.raises(Desk(), "order 1", NoOrder, 1)

    def test_number_of_names(self):
        for text, number in (("a", "1"), (TEXT, "4"), ("a if b c ; c", "3"), ("a ; a ; a", "1"), ("zz if abc", "2"),
                             ("a ; b ; c ; d ; e ; f ; g", "7"), ("a if b b", "2")):
            self.assertEqual(Desk().say(f"room {text}"), number)

    def test_answers_of_many_rooms(self):
        for room in rooms_to_try():
            if len(room):
                with self.subTest(str(room)):
                    desk = Desk()
                    self.assertEqual(desk.say("room " + str(room).replace("\n", " ; ")), str(len(room.names)))
                    self.tells(desk, room, (), 1)

    def test_nobody_is_gone_in_a_new_room(self):
        desk = self.desk_after(f"room {TEXT}", "leave a", "room a ; e if a")
        self.tells(desk, Room.read("a\ne if a"), (), 3)
        desk.say(f"room {TEXT}")
        self.tells(desk, Room.read(TEXT.replace(" ; ", "\n")), (), 4)

    def test_texts_of_no_room(self):
        for text, at in (("A", 0), ("a b", 0), ("a if", 0), ("if a", 0), ("a if a", 0), ("a ; b if", 1), ("a ; if", 1),
                         ("a ; b ; c if c ; D", 2), ("a;b", 0), ("a; b", 0), ("a ;b", 0), ("a\tb", 0), ("abcd", 0),
                         ("a ; b ; c d", 2), ("1", 0), ("a\r", 0), ("none", 0)):
            with self.subTest(text):
                self.raises(self.desk_after(f"room {TEXT}", "leave b"), f"room {text}", InvalidText, at)
                self.raises(Desk(), f"room {text}", InvalidText, at)

    def test_semicolons_stand_for_newlines_from_left_to_right(self):
        """In `a ; ; b` the first one takes the space ahead of the second, which stays."""
        for text, at in (("a ; ; b", 1), ("a ; ; ; b", 1), (";", 0), ("; a", 0), ("a ;", 0), ("; ; a", 0),
                         ("a ; b ;", 1), ("a ; b ; ; c", 2), ("; ;", 0)):
            with self.subTest(text):
                self.raises(Desk(), f"room {text}", InvalidText, at)


class Leaving(DeskTest):
    def test_who_may_leave_then(self):
        desk = self.desk_after(f"room {TEXT}")
        self.assertEqual([desk.say(f"leave {name}") for name in "bacd"], ["a c", "c d", "d", "none"])
        self.tells(desk, Room.read(TEXT.replace(" ; ", "\n")), tuple("bacd"), 5)

    def test_any_word_as_a_name(self):
        for word in ("c", "x", "if", "A", "abcd", "1", "a,b", ";", "leave", "none", "a\tb", "-", "a;", "room"):
            self.raises(self.desk_after(f"room {TEXT}"), f"leave {word}", Refused, word)

    def test_who_is_gone_already_or_not_there(self):
        desk = self.desk_after(f"room {TEXT}", "leave a")
        self.raises(desk, "leave a", Refused, "a")
        self.raises(desk, "leave d", Refused, "d")
        self.raises(desk, "leave e", Refused, "e")

    def test_questions_of_the_room_do_not_heed_who_is_gone(self):
        desk = self.desk_after(f"room {TEXT}")
        asked = ("stuck", "last", "many", "fewest", "order 0", "order 5")
        before = [desk.say(question) for question in asked]
        self.assertEqual(before, ["none", "c d", "6", "3", "a b c d", "b c a d"])
        for name in "abc":
            desk.say(f"leave {name}")
            self.assertEqual([desk.say(question) for question in asked], before)


class Questions(DeskTest):
    def test_names_or_none(self):
        desk = self.desk_after("room a if b ; b if a ; x if zz ; zz ; abc")
        self.assertEqual(answers(desk), ["abc zz", "none", "a b", "abc x", "3", "2", "abc zz x", 1])
        desk.say("leave zz")
        self.assertEqual((desk.say("may"), desk.say("gone")), ("abc x", "zz"))
        desk.say("leave abc")
        self.assertEqual((desk.say("may"), desk.say("gone")), ("x", "zz abc"))

    def test_nobody_can_leave(self):
        desk = self.desk_after("room a if b ; b if a")
        self.assertEqual(answers(desk), ["none", "none", "a b", "none", "1", "0", "none", 1])

    def test_orders_by_number(self):
        room = Room.read("\n".join("abcdefg"))
        desk = self.desk_after("room a ; b ; c ; d ; e ; f ; g")
        for at in (0, 1, 9, 10, 100, 5039):
            self.assertEqual(desk.say(f"order {at}"), " ".join(order_at(room, at)))
        for at in (5040, 10000, 99999, 100000, 999999):
            self.raises(desk, f"order {at}", NoOrder, at)
        with self.assertRaises(NoOrder) as caught:
            desk.say("order 5040")
        self.assertIs(type(caught.exception.at), int)

    def test_questions_are_no_deeds(self):
        desk = self.desk_after(f"room {TEXT}", "leave a")
        self.assertEqual(answers(desk), answers(desk))
        self.assertEqual([desk.say("undo") for _ in range(3)], ["undone", "undone", "nothing"])


class Undoing(DeskTest):
    def test_rooms_and_leaving(self):
        desk = self.desk_after("room a ; b if a", "leave a", f"room {TEXT}", "leave b", "leave c")
        self.assertEqual(len(desk), 5)
        one, other = Room.read("a\nb if a"), Room.read(TEXT.replace(" ; ", "\n"))
        stood = (other, ("b",), 4), (other, (), 3), (one, ("a",), 2), (one, (), 1), (Room(), (), 0)
        for room, gone, deeds in stood:
            self.assertEqual(desk.say("undo"), "undone")
            self.tells(desk, room, gone, deeds)
        for _ in range(3):
            self.assertEqual(desk.say("undo"), "nothing")
            self.tells(desk, Room(), (), 0)

    def test_nothing(self):
        self.assertEqual(Desk().say("undo"), "nothing")

    def test_the_same_room_again_is_a_deed(self):
        desk = self.desk_after("room a", "leave a", "room a")
        self.assertEqual((len(desk), desk.say("gone")), (3, "none"))
        self.assertEqual((desk.say("undo"), desk.say("gone"), len(desk)), ("undone", "a", 2))

    def test_what_failed_is_no_deed(self):
        desk = self.desk_after("room a ; b if a", "leave a")
        for command in ("leave a", "room A", "order 7", "leave", "undo x"):
            with self.assertRaises(ValueError):
                desk.say(command)
        self.assertEqual((len(desk), desk.say("undo"), desk.say("gone")), (2, "undone", "none"))


class Commands(DeskTest):
    def test_no_commands(self):
        for command in NO_COMMANDS:
            with self.subTest(command):
                self.raises(self.desk_after(f"room {TEXT}", "leave b"), command, InvalidCommand)
                self.raises(Desk(), command, InvalidCommand)

    def test_any_value(self):
        wrapped = [["may"], ("may",), ["leave", "a"], ("room", "a"), nested("may", 8), nested("may", 8, tuple), b"may"]
        for value in any_values() + wrapped:
            with self.subTest(repr(value)):
                self.raises(self.desk_after(f"room {TEXT}", "leave b"), value, InvalidCommand)

    def test_invalid_commands_ahead_of_other_errors(self):
        for command in ("room A\n", "room A  B", "room a if a ", "leave x y", "leave x\n", "order 9999999"):
            self.raises(Desk(), command, InvalidCommand)

    def test_by_parameter_name(self):
        desk = Desk()
        self.assertEqual([desk.say(command="room a"), desk.say(command="leave a"), desk.say(command="undo")],
                         ["1", "none", "undone"])

    def test_desks_are_apart(self):
        one, other = self.desk_after("room a ; b", "leave a"), self.desk_after("room b")
        self.assertEqual((one.say("may"), other.say("may"), len(one), len(other)), ("b", "b", 2, 1))
        other.say("leave b")
        self.assertEqual((one.say("gone"), answers(Desk())[-1]), ("a", 0))

    def test_not_iterable(self):
        desk = self.desk_after("room a")
        for action in (lambda: iter(desk), lambda: list(desk), lambda: "may" in desk, lambda: reversed(desk)):
            with self.assertRaises(TypeError):
                action()


class Walks(DeskTest):
    def test_walks_of_forty_commands(self):
        random = Random(20)
        rooms = [room for room in rooms_to_try() if len(room)]
        for _ in range(25):
            desk, stood = Desk(), [(Room(), ())]
            for _ in range(40):
                room, gone = stood[-1]
                deed = random.choice(["room", "leave", "leave", "leave", "undo", "wrong"])
                if deed == "room":
                    room = random.choice(rooms)
                    stood.append((room, ()))
                    self.assertEqual(desk.say("room " + " ; ".join(str(room).split("\n"))), str(len(room.names)))
                elif deed == "undo":
                    self.assertEqual(desk.say("undo"), "undone" if len(stood) > 1 else "nothing")
                    stood = stood[:-1] or stood
                elif deed == "leave" and may(room, gone):
                    gone += (random.choice(may(room, gone)),)
                    stood.append((room, gone))
                    self.assertEqual(desk.say(f"leave {gone[-1]}"), names_told(may(room, gone)))
                else:
                    self.raises(desk, "leave xyz", Refused, "xyz")
                self.tells(desk, *stood[-1], len(stood) - 1)


if __name__ == "__main__":
    unittest.main()
