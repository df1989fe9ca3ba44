"""Point 4, what a thing is; point 5, the order of things."""

import unittest

from papervault.things import ahead, is_thing
from tests.helper import Odd, brief, nested, no_things, things


class IsThing(unittest.TestCase):

    def yes(self, value):
        self.assertIs(is_thing(value), True, brief(value))

    def no(self, value):
        self.assertIs(is_thing(value), False, brief(value))

    def test_each_kind(self):
        for thing in things():
            self.yes(thing)

    def test_numbers_to_their_bounds(self):
        for number in (0, 1, -1, 10 ** 12, 10 ** 30 - 1, 10 ** 30, -10 ** 30):
            self.yes(number)
        for number in (10 ** 30 + 1, -10 ** 30 - 1, 10 ** 5000, -10 ** 5000):
            self.no(number)

    def test_truths_are_no_numbers(self):
        self.no(True)
        self.no(False)

    def test_texts_to_their_bounds(self):
        for length in (0, 1, 59, 60):
            self.yes("a" * length)
        for length in (61, 62, 10000):
            self.no("a" * length)

    def test_signs(self):
        for number in range(0x300):
            for text in (chr(number), "a" + chr(number), chr(number) + "a"):
                if 32 <= number <= 126 and number != 37:
                    self.yes(text)
                else:
                    self.no(text)
        for sign in ("\n", "\t", "%", "\u2028", "\ud800", "\U0010ffff"):
            self.no(sign)
            self.no("a" * 59 + sign)

    def test_tuples_to_their_bounds(self):
        for length in (0, 1, 39, 40):
            self.yes((None,) * length)
            self.yes((("a",) * length,))
        for length in (41, 42, 300):
            self.no((None,) * length)
            self.no((("a",) * length,))

    def test_depth(self):
        for deep in range(1, 6):
            self.yes(nested(deep))
            self.yes(nested(deep, (1, "a", None)))
        for deep in (6, 7, 100, 100000):
            self.no(nested(deep))
            self.no(nested(deep, (1, "a", None)))

    def test_depth_counts_the_deepest_place_alone(self):
        self.yes(((1,), nested(4), (nested(3),), 5, nested(4)))
        self.no(((1,), nested(4), (nested(4),), 5, nested(4)))
        self.yes((nested(4),) * 40)

    def test_other_values_alone(self):
        for value in no_things():
            self.no(value)

    def test_other_values_at_any_depth(self):
        for deep in range(1, 6):
            for value in no_things():
                self.no(nested(deep, (value,)))
                self.no(nested(deep, (1, value)))
                self.no(nested(deep, (value, 1)))

    def test_a_list_or_dict_within_itself(self):
        row = []
        row.append(row)
        self.no(row)
        self.no((row,))
        table = {}
        table[1] = table
        self.no((1, (table,)))

    def test_values_that_say_they_are_like_all(self):
        class Like(Odd):
            def __eq__(self, other):
                return True
        self.no(Like())
        self.no((Like(),))


class Order(unittest.TestCase):

    def test_each_two_of_a_row_in_order(self):
        row = things()
        for place, one in enumerate(row):
            for other_place, other in enumerate(row):
                self.assertIs(ahead(one, other), place < other_place, (one, other))

    def test_a_thing_is_not_ahead_of_itself_written_anew(self):
        for one, other in zip(things(), things()):
            self.assertIs(ahead(one, other), False, one)
            self.assertIs(ahead(other, one), False, one)

    def test_kinds(self):
        kinds = [[None], [-10 ** 30, 0, 10 ** 30], ["", "~" * 60], [(), (None,), (0,)]]
        for place, kind in enumerate(kinds):
            for later in kinds[place + 1:]:
                for one in kind:
                    for other in later:
                        self.assertIs(ahead(one, other), True)
                        self.assertIs(ahead(other, one), False)

    def test_kinds_within_tuples(self):
        row = [(None, 9), (9, None), ("", None), ((), None)]
        for one, other in zip(row, row[1:]):
            self.assertIs(ahead(one, other), True)
            self.assertIs(ahead(other, one), False)

    def test_numbers_by_size_not_by_figures(self):
        self.assertIs(ahead(9, 10), True)
        self.assertIs(ahead(10, 9), False)
        self.assertIs(ahead(-10, -9), True)
        self.assertIs(ahead(-9, -10), False)

    def test_texts_by_signs_not_by_length(self):
        self.assertIs(ahead("b", "aa"), False)
        self.assertIs(ahead("aa", "b"), True)
        self.assertIs(ahead("Z", "a"), True)
        self.assertIs(ahead("a", "Z"), False)

    def test_a_beginning_is_ahead(self):
        self.assertIs(ahead("ab", "abc"), True)
        self.assertIs(ahead("abc", "ab"), False)
        self.assertIs(ahead((1, 2), (1, 2, None)), True)
        self.assertIs(ahead((1, 2, None), (1, 2)), False)
        self.assertIs(ahead((), (None,)), True)

    def test_tuples_by_things_not_by_length(self):
        self.assertIs(ahead((2,), (1, 5, 5)), False)
        self.assertIs(ahead((1, 5, 5), (2,)), True)

    def test_somewhat_beyond_the_bounds(self):
        self.assertIs(ahead(10 ** 30, 10 ** 30 + 1), True)
        self.assertIs(ahead("a" * 61, "a" * 62), True)
        self.assertIs(ahead((1,) * 42, (1,) * 41), False)
        self.assertIs(ahead(nested(6), nested(7)), True)


if __name__ == "__main__":
    unittest.main()
