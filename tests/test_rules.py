"""Points [1] and [5]: names and rules."""

import unittest

from leavelots.errors import InvalidRule
from leavelots.rooms import Room
from leavelots.rules import Rule
from tests.values import any_values, is_name, is_sequence

GOOD_NAMES = ["a", "z", "m", "aa", "az", "fi", "i", "f", "abc", "zzz", "iff", "ifx", "xif", "or", "not", "ab", "aab"]
BAD_NAMES = [
    "", "if", "abcd", "iffy", "abcdefgh", "A", "Z", "aB", "IF", "If", "a1", "1", "0", "a b", " ", " a", "a ", "a\n",
    "\na", "\n", "a_", "_", "a-b", "`", "{", "@", "[", "\u00e4", "\u00df", "\u00e9a", "\uff41", "a\x00", "\t",
]


class Names(unittest.TestCase):
    def test_names_of_one_to_three_letters(self):
        for name in GOOD_NAMES:
            with self.subTest(name):
                self.assertEqual(Rule(name).name, name)
                self.assertEqual(Rule("q", [name]).gone, (name,))

    def test_what_is_no_name(self):
        for name in BAD_NAMES:
            with self.subTest(name):
                self.assertEqual(self.word_of(name), "name")
                self.assertEqual(self.word_of("q", [name]), "gone")

    def test_each_letter_is_one(self):
        for letter in "abcdefghijklmnopqrstuvwxyz":
            with self.subTest(letter):
                self.assertEqual(Rule(letter).name, letter)
                self.assertEqual(Rule("q" + letter).name, "q" + letter)

    def word_of(self, *values):
        with self.assertRaises(InvalidRule) as caught:
            Rule(*values)
        return caught.exception.word


class Rules(unittest.TestCase):
    def word_of(self, *values, **more):
        with self.assertRaises(InvalidRule) as caught:
            Rule(*values, **more)
        return caught.exception.word

    def test_gone_is_the_lot(self):
        self.assertEqual(Rule("d", ["b", "a"]).gone, ("a", "b"))
        self.assertEqual(Rule("d", ("b", "a", "b", "b")).gone, ("a", "b"))
        self.assertEqual(Rule("d", ["z", "abc", "ab", "b", "aa", "a"]).gone, ("a", "aa", "ab", "abc", "b", "z"))

    def test_without_gone(self):
        for rule in (Rule("a"), Rule("a", ()), Rule("a", []), Rule(name="a"), Rule(gone=[], name="a")):
            self.assertEqual((rule.name, rule.gone, str(rule)), ("a", (), "a"))
            self.assertIsInstance(rule.gone, tuple)

    def test_text(self):
        self.assertEqual(str(Rule("d", ["b", "a"])), "d if a b")
        self.assertEqual(str(Rule("d", ["b", "b"])), "d if b")
        self.assertEqual(str(Rule("abc", ["zzz", "fi", "i"])), "abc if fi i zzz")

    def test_equal_by_text(self):
        self.assertTrue(Rule("d", ["b", "a"]) == Rule("d", ("a", "b", "a")))
        self.assertFalse(Rule("d", ["b", "a"]) != Rule("d", ("a", "b", "a")))
        self.assertTrue(Rule("d") == Rule("d", []))

    def test_unequal_by_text(self):
        for other in (Rule("d"), Rule("d", ["a"]), Rule("d", ["b"]), Rule("c", ["a", "b"]), Rule("d", ["a", "b", "c"])):
            with self.subTest(str(other)):
                self.assertFalse(Rule("d", ["a", "b"]) == other)
                self.assertTrue(Rule("d", ["a", "b"]) != other)

    def test_equal_to_nothing_else(self):
        rule = Rule("a")
        others = [value for value in any_values() if not isinstance(value, Rule)]
        for other in others + [str(rule), rule.gone, Room([rule]), ("a", ()), ["a", ()]]:
            with self.subTest(repr(other)):
                self.assertIs(rule == other, False)
                self.assertIs(other == rule, False)
                self.assertIs(rule != other, True)

    def test_any_value_as_name(self):
        for value in any_values():
            with self.subTest(repr(value)):
                if is_name(value):
                    self.assertEqual(Rule(value).name, value)
                else:
                    self.assertEqual(self.word_of(value), "name")

    def test_any_value_as_gone(self):
        for value in any_values():
            with self.subTest(repr(value)):
                if is_sequence(value) and all(is_name(thing) for thing in value):
                    self.assertEqual(Rule("q", value).gone, tuple(sorted(set(value))))
                else:
                    self.assertEqual(self.word_of("q", value), "gone")

    def test_gone_is_a_list_or_a_tuple(self):
        for value in ("b", "bc", "", {"b": 1}, {"b"}, Room.read("b"), Rule("b"), None, 0, False):
            with self.subTest(repr(value)):
                self.assertEqual(self.word_of("q", value), "gone")

    def test_gone_without_the_name_itself(self):
        for gone in (["a"], ("a",), ["b", "a"], ["a", "b"], ["b", "a", "c"], ["a", "a"]):
            with self.subTest(gone):
                self.assertEqual(self.word_of("a", gone), "gone")
        self.assertEqual(Rule("a", ["aa", "aaa"]).gone, ("aa", "aaa"))

    def test_wrong_name_among_right_ones(self):
        for bad in BAD_NAMES + [None, 1, True, ["a"], ("a",), Rule("a")]:
            with self.subTest(bad):
                self.assertEqual(self.word_of("q", ["a", bad]), "gone")
                self.assertEqual(self.word_of("q", (bad, "a")), "gone")

    def test_name_is_told_first(self):
        self.assertEqual(self.word_of("A", 5), "name")
        self.assertEqual(self.word_of(None, None), "name")
        self.assertEqual(self.word_of("if", ["if"]), "name")
        self.assertEqual(self.word_of(["a"], ["a"]), "name")
        self.assertEqual(self.word_of(gone=["A"], name="A"), "name")
        self.assertEqual(self.word_of(gone=["A"], name="a"), "gone")

    def test_arguments_stay_apart(self):
        gone = ["c", "b", "c"]
        rule = Rule("a", gone)
        self.assertEqual(gone, ["c", "b", "c"])
        gone.append("d")
        gone[0] = "e"
        self.assertEqual((rule.gone, str(rule)), (("b", "c"), "a if b c"))

    def test_not_iterable(self):
        for rule in (Rule("a"), Rule("a", ["b"])):
            with self.assertRaises(TypeError):
                iter(rule)
            with self.assertRaises(TypeError):
                list(rule)
            with self.assertRaises(TypeError):
                "a" in rule


if __name__ == "__main__":
    unittest.main()
