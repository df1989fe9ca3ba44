"""Point 26, of words and values: how a text is parted into words, and what values they write."""

import random
import unittest

from papervault.errors import NoQuestion
from papervault.names import is_value
from papervault.words import value_of, words_in
from tests.helper import Odd, brief

NO_TEXTS = [None, True, False, 0, 5, -1, 10 ** 30, (), ("a",), [], ["a"], ["'a'"], {}, {"a": 1}, b"a", 1.5, set(),
            Odd()]


class Words(unittest.TestCase):

    def test_words_with_one_blank_between(self):
        for text, words in [
                ("a", ["a"]), ("show", ["show"]), ("show all of people", ["show", "all", "of", "people"]),
                ("a b", ["a", "b"]), ("people.age <= 30", ["people.age", "<=", "30"]),
                ("( not a.b = -5 )", ["(", "not", "a.b", "=", "-5", ")"]), ("(not", ["(not"]), ("a;b", ["a;b"]),
                ("a; b", ["a;", "b"]), ("A B", ["A", "B"]), ("007 +1 -0", ["007", "+1", "-0"]), ("50%", ["50%"]),
                ("a\nb", ["a\nb"]), ("a \n b", ["a", "\n", "b"]), ("\n", ["\n"]), ("a\tb", ["a\tb"]),
                ("\"a b\"", ["\"a", "b\""]), ("`a`", ["`a`"]), ("~ ! #", ["~", "!", "#"])]:
            self.assertEqual(words_in(text), words)

    def test_quotes(self):
        for text, words in [
                ("'a'", ["'a'"]), ("''", ["''"]), ("' '", ["' '"]), ("'   '", ["'   '"]), ("'a b'", ["'a b'"]),
                ("' a  b '", ["' a  b '"]), ("x 'a b' y", ["x", "'a b'", "y"]), ("'a' 'b'", ["'a'", "'b'"]),
                ("'' ''", ["''", "''"]), ("' ' ' '", ["' '", "' '"]), ("a '' b", ["a", "''", "b"]),
                ("put people 1 'ann b' 31", ["put", "people", "1", "'ann b'", "31"]), ("'a\nb'", ["'a\nb'"]),
                ("' of ' of", ["' of '", "of"])]:
            self.assertEqual(words_in(text), words)

    def test_words_that_are_none(self):
        for text in ["", " ", "  ", " a", "a ", "a  b", "  a", "a  ", "a b ", " a b", "a   b", "show  all", "'a' ",
                     " 'a'", "'a'  'b'", "''  ''", " ''", "'' ", "\n ", " \n"]:
            self.assertRaises(NoQuestion, words_in, text)

    def test_quotes_that_are_left_open(self):
        for text in ["'", "'a", "a '", "a 'b", "'a b", "' ", "a ' b", "'a' '", "'a' 'b", "'' '", "a 'b c d"]:
            self.assertRaises(NoQuestion, words_in, text)

    def test_quotes_amid_a_word(self):
        for text in ["a'", "a'b", "a'b'", "'a'b", "'a''b'", "'''", "''''", "'a'b'", "it's", "it's his'", "x a'b' y",
                     "a'b c'd", "'a'.", ".'a'", "x 'a'b y", "'a','b'", "a''", "''a", "='a'", "('a')", "a b'c d' e",
                     "'a'\n", "\n'a'"]:
            self.assertRaises(NoQuestion, words_in, text)

    def test_what_is_no_text(self):
        for wrong in NO_TEXTS:
            self.assertRaises(NoQuestion, words_in, wrong)

    def test_words_joined_and_read_back(self):
        chance = random.Random(26)
        signs = ["a", "z", "0", "-", ".", "(", ")", "=", "#", ";", "%", "~", "!", "\n", "\"", "\\"]
        for turn in range(300):
            words = []
            for number in range(chance.randrange(1, 9)):
                within = "".join(chance.choice(signs + [" "] * 5) for place in range(chance.randrange(9)))
                plain = "".join(chance.choice(signs) for place in range(chance.randrange(1, 9)))
                words.append("'" + within + "'" if chance.randrange(2) else plain)
            self.assertEqual(words_in(" ".join(words)), words)
            for wrong in (" ".join(words) + " ", " " + " ".join(words), "  ".join(words) + "  a",
                          " ".join(words) + " '", " ".join(words) + "'"):
                self.assertRaises(NoQuestion, words_in, wrong)

    def test_ten_thousand_signs(self):
        self.assertEqual(words_in("a" * 10000), ["a" * 10000])
        self.assertEqual(words_in("a " * 4999 + "ab"), ["a"] * 4999 + ["ab"])
        self.assertEqual(words_in("'" + " " * 9998 + "'"), ["'" + " " * 9998 + "'"])
        self.assertRaises(NoQuestion, words_in, "a " * 5000)
        self.assertRaises(NoQuestion, words_in, " " * 10000)
        self.assertRaises(NoQuestion, words_in, "'" + " " * 9999)

    def test_the_list_is_the_askers_own(self):
        told = words_in("a 'b c'")
        other = words_in("a 'b c'")
        self.assertIs(told.__class__, list)
        told.append("d")
        self.assertEqual(other, ["a", "'b c'"])
        self.assertEqual(words_in("a 'b c'"), ["a", "'b c'"])


class Values(unittest.TestCase):

    def test_whole_numbers(self):
        for number in [0, 1, -1, 7, 10, -10, 100, 999, -1000, 10 ** 12, -10 ** 12, 10 ** 12 - 1, 1 - 10 ** 12]:
            told = value_of(str(number))
            self.assertEqual(told, number)
            self.assertIs(told.__class__, int)

    def test_words_that_write_no_whole_number(self):
        for word in ["00", "01", "007", "-0", "-00", "-01", "+1", "+0", "--1", "-", "+", "", "1-", "1.0", "1.", ".5",
                     "1e3", "0x10", "1_000", " 1", "1 ", "1\n", "\n1", "- 1", "1 2", "a", "a1", "1a", "-a",
                     "people.age", "show", "\u0661", "\u00b2", "-\u0661", "\uff11", "1\u0661", "None", "True", "0" * 13,
                     "0" * 5000]:
            self.assertRaises(NoQuestion, value_of, word)

    def test_whole_numbers_beyond_the_bounds(self):
        for number in [10 ** 12 + 1, -10 ** 12 - 1, 10 ** 13 - 1, 10 ** 13, -10 ** 13, 10 ** 30, -10 ** 30]:
            self.assertRaises(NoQuestion, value_of, str(number))
        self.assertRaises(NoQuestion, value_of, "1" * 5000)
        self.assertRaises(NoQuestion, value_of, "-" + "1" * 9999)

    def test_text_values(self):
        for text in ["", " ", "a", "  a b ", "5", "-5", "x" * 20, " " * 20, "~", "!", "\"", "(", "people.age", "#",
                     "\\"]:
            told = value_of("'" + text + "'")
            self.assertEqual(told, text)
            self.assertIs(told.__class__, str)

    def test_signs_that_no_value_has(self):
        for text in ["%", "5%", ";", "a;b", "'", "a'b", "''", "\n", "a\nb", "\t", "\x7f", "\u00e4", "x" * 21, " " * 21,
                     "x" * 9000]:
            self.assertRaises(NoQuestion, value_of, "'" + text + "'")

    def test_each_sign(self):
        for number in range(300):
            word = "'" + chr(number) + "'"
            if is_value(chr(number)):
                self.assertEqual(value_of(word), chr(number))
            else:
                self.assertRaises(NoQuestion, value_of, word)

    def test_quotes_that_are_none(self):
        for word in ["'", "'a", "a'", "'''", "''''", "'a'b", "a'b'", "'a' ", " 'a'", "\"a\"", "`a`", "'1", "1'",
                     "-'1'"]:
            self.assertRaises(NoQuestion, value_of, word)

    def test_what_is_no_text(self):
        for wrong in NO_TEXTS:
            self.assertRaises(NoQuestion, value_of, wrong)

    def test_every_value_is_written_by_one_word(self):
        chance = random.Random(27)
        for turn in range(300):
            number = chance.randrange(-10 ** chance.randrange(1, 13), 10 ** 12)
            self.assertEqual(value_of(words_in("x " + str(number))[1]), number, brief(number))
            text = "".join(chance.choice(" ab~!\"(") for place in range(chance.randrange(21)))
            self.assertEqual(value_of(words_in("x '" + text + "' y")[1]), text)


if __name__ == "__main__":
    unittest.main()
