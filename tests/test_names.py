"""Point 22: names and values."""

import unittest

from papervault.names import is_name, is_value
from tests.helper import brief, no_things

NAMES = ["a", "z", "ab", "people", "abcdefg", "abcdefgh", "zzzzzzzz", "show", "where", "of", "az"]

NO_NAMES = ["", "abcdefghi", "a" * 9, "a" * 60, "a" * 10000, "A", "Z", "aB", "Ab", "a1", "1", "a_b", "_", "a b", " ",
            " a", "a ", "a.b", "a-b", "`", "{", "@", "[", "a'", "'a'", "a;", "a\n", "\na", "\n", "a%", "%", "~",
            "\u00e4", "\u00df", "\u0430", "a\u0301", "\u00aa", "\uff41", "\x00", "a\x00", "\ud800",
            None, 0, 1, -1, 97, (), ("a",), ("a", "b"), ["a"], [], {}, {"a": 1}, {"a"}, True, False, b"a", 1.0]

VALUES = [0, 1, -1, 5, 10, -10, 10 ** 12, -10 ** 12, 10 ** 12 - 1, 1 - 10 ** 12, "", " ", "a", "A", "~", "!", "&", "(",
          ":", "<", "$", "\"", "a b", " a ", "  ", "10", "-0", "o", "people.name", "x" * 19, "x" * 20, " " * 20,
          "~" * 20, "show all of people", "#", "=", "\\", "{}", "ab/cd"]

NO_VALUES = [10 ** 12 + 1, -10 ** 12 - 1, 10 ** 13, -10 ** 13, 10 ** 30, 10 ** 400, "x" * 21, "x" * 60, " " * 21,
             "x" * 10000, "%", "'", ";", "5%", "it's", "a;", ";a", "'a'", "x" * 19 + "%", "x" * 19 + "'",
             "x" * 19 + ";", "\n", "a\nb", "a\n", "\t", "\x1f", "\x7f", "\x00", "\x80", "\u00e4", "\u20ac", "\ud800",
             "\r", True, False, None, (), (1,), ("a",), (1, 2), [], [1], ["a"], {}, {1}, 1.0, 0.0, b"a", float("nan")]


class Names(unittest.TestCase):

    def test_names(self):
        for name in NAMES:
            self.assertIs(is_name(name), True, name)

    def test_no_names(self):
        for wrong in NO_NAMES + no_things():
            self.assertIs(is_name(wrong), False, brief(wrong))

    def test_each_sign(self):
        for number in range(300):
            for text in (chr(number), "a" + chr(number), chr(number) + "a", "abc" + chr(number) + "def"):
                self.assertIs(is_name(text), 97 <= number <= 122, repr(text))

    def test_each_length(self):
        for length in range(70):
            self.assertIs(is_name("x" * length), 1 <= length <= 8)


class Values(unittest.TestCase):

    def test_values(self):
        for value in VALUES + NAMES:
            self.assertIs(is_value(value), True, brief(value))

    def test_no_values(self):
        for wrong in NO_VALUES:
            self.assertIs(is_value(wrong), False, brief(wrong))
        for wrong in no_things():
            self.assertIs(is_value(wrong), False, brief(wrong))

    def test_each_sign(self):
        for number in range(300):
            fine = 32 <= number <= 126 and chr(number) not in "%';"
            for text in (chr(number), "a" + chr(number), chr(number) + "a", "x" * 19 + chr(number)):
                self.assertIs(is_value(text), fine, repr(text))

    def test_each_length(self):
        for length in range(70):
            self.assertIs(is_value("x" * length), length <= 20)


if __name__ == "__main__":
    unittest.main()
