import unittest

from plymap.names import is_name, told_by_names
from tests.helper import Sore, odd_things

NAMES = ["a", "z", "b", "az", "abc", "layer", "abcdefgh", "zzzzzzzz", "ijklmnop", "qrstuvwx"]
NO_NAMES = ["", "abcdefghi", "a" * 300, "A", "aB", "Abc", "a b", " a", "a ", " ", "a1", "1", "a-b", "a_b", "a.b", "|",
            "`", "{", "@", "[", "~", "/", "ab\n", "\t", "\u00e4", "a\u0301", "\u0430", "\uff41", "\u00df", "\u00aa"]


class Names(unittest.TestCase):
    def test_names_of_one_to_eight_letters(self):
        for name in NAMES:
            self.assertIs(is_name(name), True, name)

    def test_each_letter(self):
        for code in range(128):
            self.assertIs(is_name(chr(code)), 97 <= code <= 122, code)

    def test_texts_that_are_no_names(self):
        for text in NO_NAMES:
            self.assertIs(is_name(text), False, text)

    def test_whatever_is_handed_in(self):
        for thing in odd_things() + [["a"], ("a",), {"a": 1}, [Sore()], b"a"]:
            self.assertIs(is_name(thing), isinstance(thing, str) and thing == "a", type(thing))

    def test_told_by_names(self):
        self.assertEqual(told_by_names(["a", "b", "c"], (1, 0, -2)), {"a": 1, "c": -2})
        self.assertEqual(told_by_names([], ()), {})
