"""Points [2] and [6]: rooms."""

import unittest

from leavelots.errors import InvalidRoom, InvalidText, NoRule
from leavelots.rooms import Room
from leavelots.rules import Rule
from tests.values import any_values, is_name, is_sequence, rooms_to_try

TEXT = "a\nb\nc if a\nc if b\nd if a b"
NO_RULES = [
    " ", "  ", "a ", " a", "a  if b", "a if", "a if ", "a if  b", "a if b ", "a if b  c", " a if b", "if", "if if",
    "if a", "if if a", "a if if", "a if b if c", "a if b if", "a b", "a b c", "a iff b", "a If b", "a fi b", "A",
    "abcd", "a1", "a if B", "a if abcd", "a if b,c", "a,b", "a if a", "a if b a", "a if a b", "aif b", "a ifb",
    "a;b", "#", "a if 1", "ab if c d ab", "none if", "a:b", "if if if", "a not b",
]


class Making(unittest.TestCase):
    def at_of(self, rules):
        with self.assertRaises(InvalidRoom) as caught:
            Room(rules)
        return caught.exception.at

    def test_rules_as_given_in_order(self):
        rules = [Rule("b", ["a"]), Rule("a"), Rule("b", ["a"]), Rule("a", ["z"])]
        for given in (rules, tuple(rules)):
            room = Room(given)
            self.assertIsInstance(room.rules, tuple)
            self.assertEqual(room.rules, tuple(rules))
            self.assertEqual([str(rule) for rule in room.rules], ["b if a", "a", "b if a", "a if z"])

    def test_names_are_the_lot_of_all_names(self):
        self.assertEqual(Room.read("b if z aa\na\nb").names, ("a", "aa", "b", "z"))
        self.assertEqual(Room.read("a if b").names, ("a", "b"))
        self.assertEqual(Room.read("zz\nz\nabc\nb").names, ("abc", "b", "z", "zz"))
        self.assertIsInstance(Room([Rule("a")]).names, tuple)

    def test_without_rules(self):
        for room in (Room(), Room([]), Room(()), Room(rules=())):
            self.assertEqual((room.rules, room.names, len(room), str(room)), ((), (), 0, ""))

    def test_any_value_as_rules(self):
        for value in any_values():
            with self.subTest(repr(value)):
                if not is_sequence(value):
                    self.assertEqual(self.at_of(value), 0)
                elif all(isinstance(thing, Rule) for thing in value):
                    self.assertEqual(Room(value).rules, tuple(value))
                else:
                    first = [isinstance(thing, Rule) for thing in value].index(False)
                    self.assertEqual(self.at_of(value), first)

    def test_index_of_the_first_that_is_no_rule(self):
        rule = Rule("a")
        wrong = [value for value in any_values() if not isinstance(value, Rule)]
        for value in wrong:
            with self.subTest(repr(value)):
                self.assertEqual(self.at_of([value]), 0)
                self.assertEqual(self.at_of((rule, value)), 1)
                self.assertEqual(self.at_of([rule, rule, value, rule]), 2)
                self.assertEqual(self.at_of([rule, value, value, None]), 1)

    def test_no_sequence(self):
        for value in (Rule("a"), Room([Rule("a")]), "a", "", {0: Rule("a")}, None, 0, True):
            with self.subTest(repr(value)):
                self.assertEqual(self.at_of(value), 0)

    def test_arguments_stay_apart(self):
        rules = [Rule("b"), Rule("a")]
        room = Room(rules)
        self.assertEqual([str(rule) for rule in rules], ["b", "a"])
        rules.append(Rule("c"))
        rules[0] = Rule("d")
        self.assertEqual((str(room), room.names, len(room)), ("b\na", ("a", "b"), 2))


class Indexes(unittest.TestCase):
    def setUp(self):
        self.room = Room.read(TEXT)

    def test_length_is_the_number_of_rules(self):
        self.assertEqual(len(self.room), 5)
        self.assertEqual(len(Room.read("a\na\na")), 3)

    def test_rule_with_an_index(self):
        texts = [str(self.room[at]) for at in range(5)]
        self.assertEqual(texts, ["a", "b", "c if a", "c if b", "d if a b"])
        self.assertIsInstance(self.room[0], Rule)
        self.assertEqual(self.room[2], Rule("c", ["a"]))

    def test_no_rule_with_an_index(self):
        for room in (Room(), Room.read("a"), self.room):
            for at in (-1, -2, -len(room), len(room), len(room) + 1, 10 ** 9, -10 ** 9, 10 ** 30):
                if 0 <= at < len(room):
                    continue
                with self.subTest(len(room), at=at):
                    with self.assertRaises(NoRule) as caught:
                        room[at]
                    self.assertEqual(caught.exception.at, at)
                    with self.assertRaises(NoRule) as caught:
                        room.without(at)
                    self.assertEqual(caught.exception.at, at)
        self.assertEqual(str(self.room), TEXT)

    def test_without(self):
        lines = TEXT.split("\n")
        for at in range(5):
            left = lines[:at] + lines[at + 1:]
            self.assertEqual(str(self.room.without(at)), "\n".join(left))
            self.assertEqual(self.room.without(at=at), Room.read("\n".join(left)))
        self.assertEqual(self.room.without(4).names, ("a", "b", "c"))
        self.assertEqual(Room.read("a\na\nb").without(0), Room.read("a\nb"))
        self.assertEqual(Room.read("a if b").without(0), Room())
        self.assertIsInstance(self.room.without(0), Room)
        self.assertEqual(str(self.room), TEXT)

    def test_sum(self):
        p, q = Room.read("a\nb if a"), Room.read("c if b\na")
        self.assertEqual(str(p + q), "a\nb if a\nc if b\na")
        self.assertEqual(str(q + p), "c if b\na\na\nb if a")
        self.assertEqual((p + q).names, ("a", "b", "c"))
        self.assertEqual((p + p).rules, p.rules + p.rules)
        self.assertEqual((p + Room(), Room() + p, Room() + Room()), (p, p, Room()))
        self.assertIsInstance(p + q, Room)
        p += q
        self.assertEqual((len(p), str(q)), (4, "c if b\na"))

    def test_not_iterable(self):
        for room in (Room(), Room.read("a"), self.room):
            for use in (iter, list, tuple, sorted, lambda room: [*room], lambda room: "a" in room, enumerate, set):
                with self.subTest(str(room)), self.assertRaises(TypeError):
                    use(room)
            with self.assertRaises(TypeError):
                for _ in room:
                    pass


class Texts(unittest.TestCase):
    def at_of(self, text):
        with self.assertRaises(InvalidText) as caught:
            Room.read(text)
        return caught.exception.at

    def test_text_is_read_and_told(self):
        for text in ("", "a", "a\na", "abc if zzz", TEXT, "b if a\na if b"):
            with self.subTest(text):
                self.assertEqual(str(Room.read(text)), text)
                self.assertEqual(str(Room.read(text=text)), text)

    def test_names_in_any_order_perhaps_twice(self):
        self.assertEqual(str(Room.read("d if b a")), "d if a b")
        self.assertEqual(str(Room.read("d if b b a b\na if c c")), "d if a b\na if c")
        self.assertEqual(Room.read("d if b a b").rules, (Rule("d", ["a", "b"]),))

    def test_empty_text_has_no_lines(self):
        self.assertEqual((len(Room.read("")), Room.read("").rules), (0, ()))
        self.assertEqual(Room.read(""), Room())

    def test_empty_lines_are_no_rules(self):
        self.assertEqual(self.at_of("\n"), 0)
        self.assertEqual(self.at_of("a\n"), 1)
        self.assertEqual(self.at_of("\na"), 0)
        self.assertEqual(self.at_of("a\nb if a\n"), 2)
        self.assertEqual(self.at_of("a\n\nb"), 1)
        self.assertEqual(self.at_of("a\n\n"), 1)

    def test_first_line_that_is_no_rule(self):
        for line in NO_RULES:
            with self.subTest(line):
                self.assertEqual(self.at_of(line), 0)
                self.assertEqual(self.at_of("a\n" + line), 1)
                self.assertEqual(self.at_of("a\nb if a\n" + line + "\nc"), 2)
                self.assertEqual(self.at_of("a\n" + line + "\n" + line + "\n"), 1)

    def test_any_value_as_text(self):
        for value in any_values():
            with self.subTest(repr(value)):
                if value == "" or is_name(value):
                    self.assertEqual(str(Room.read(value)), value)
                elif value == "a\n":
                    self.assertEqual(self.at_of(value), 1)
                else:
                    self.assertEqual(self.at_of(value), 0)

    def test_each_room_is_read_from_its_text(self):
        for room in rooms_to_try():
            again = Room.read(str(room))
            self.assertEqual(again, room)
            self.assertEqual((again.rules, again.names), (room.rules, room.names))
            self.assertEqual(str(room).count("\n"), max(0, len(room) - 1))

    def test_a_long_text(self):
        text = "\n".join(["abc if ab z zz", "ab", "z if ab"] * 40)
        self.assertEqual(len(Room.read(text)), 120)
        self.assertEqual(str(Room.read(text)), text)


class Equality(unittest.TestCase):
    def test_equal_by_text(self):
        self.assertTrue(Room.read("d if a b") == Room([Rule("d", ["b", "a"])]))
        self.assertFalse(Room.read("d if a b") != Room.read("d if b a a"))
        self.assertTrue(Room() == Room.read(""))

    def test_unequal_by_text(self):
        room = Room.read("a\nb")
        for text in ("", "a", "b\na", "a\nb\nb", "a\na\nb", "a\nb if a", "a\nc"):
            with self.subTest(text):
                self.assertFalse(room == Room.read(text))
                self.assertTrue(room != Room.read(text))

    def test_equal_to_nothing_else(self):
        for room in (Room(), Room.read("a")):
            others = [value for value in any_values() if not isinstance(value, Room)]
            for other in others + [str(room), room.rules, list(room.rules), Rule("a"), room.names]:
                with self.subTest(repr(other)):
                    self.assertIs(room == other, False)
                    self.assertIs(other == room, False)
                    self.assertIs(room != other, True)


if __name__ == "__main__":
    unittest.main()
