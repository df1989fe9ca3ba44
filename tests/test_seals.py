"""Point 7, the row of codes and the seal."""

import unittest

from papervault.seals import seal
from tests.helper import folded, nested, number_between, things, twins_of


# Reckoned once, apart from the program.
NONE_SEALED = 1724446203223115672
ZERO_SEALED = 484675252551469697
A_SEALED = 668403394377199966
EMPTY_SEALED = 1445791046515776837
MIXED_SEALED = 2227409574781607066


def base128(signs):
    """The number that signs write to the base 128, reckoned by powers."""
    return sum(ord(sign) * 128 ** power for power, sign in enumerate(reversed(signs)))


class Seals(unittest.TestCase):

    def test_reckoned_by_hand(self):
        self.assertEqual(seal(None), (7 * 1234567890123456789 + 1) % (2 ** 61 - 1) + 1)
        self.assertEqual(seal(None), NONE_SEALED)
        self.assertEqual(seal(0), ZERO_SEALED)
        self.assertEqual(seal("a"), A_SEALED)
        self.assertEqual(seal(()), EMPTY_SEALED)
        self.assertEqual(seal((None, -1, "abcdefgh", (7,))), MIXED_SEALED)

    def test_numbers(self):
        for number, codes in [
                (0, [2, 10 ** 15, 0]), (1, [2, 10 ** 15, 1]), (-1, [2, 10 ** 15 - 1, 10 ** 15 - 1]),
                (10 ** 15, [2, 10 ** 15 + 1, 0]), (10 ** 15 - 1, [2, 10 ** 15, 10 ** 15 - 1]),
                (-10 ** 15, [2, 10 ** 15 - 1, 0]), (10 ** 30, [2, 2 * 10 ** 15, 0]), (-10 ** 30, [2, 0, 0]),
                (10 ** 30 - 1, [2, 2 * 10 ** 15 - 1, 10 ** 15 - 1]), (-10 ** 30 + 1, [2, 0, 1])]:
            self.assertEqual(seal(number), folded(codes), number)

    def test_texts(self):
        self.assertEqual(seal(""), folded([3, 0]))
        self.assertEqual(seal("a"), folded([3, 1, 97]))
        self.assertEqual(seal("ab"), folded([3, 2, 97 * 128 + 98]))
        self.assertEqual(seal("abcdefg"), folded([3, 7, base128("abcdefg")]))
        self.assertEqual(seal("abcdefgh"), folded([3, 8, base128("abcdefg"), 104]))
        self.assertEqual(seal("abcdefghijklmn"), folded([3, 14, base128("abcdefg"), base128("hijklmn")]))
        self.assertEqual(seal("abcdefghijklmno"), folded([3, 15, base128("abcdefg"), base128("hijklmn"), 111]))
        signs = "".join(chr(32 + number) for number in range(6, 66))
        self.assertEqual(len(signs), 60)
        sevens = [base128(signs[start:start + 7]) for start in range(0, 60, 7)]
        self.assertEqual(len(sevens), 9)
        self.assertEqual(sevens[-1], base128(signs[56:]))
        self.assertEqual(seal(signs), folded([3, 60] + sevens))

    def test_tuples(self):
        self.assertEqual(seal(()), folded([4, 0]))
        self.assertEqual(seal((None,)), folded([4, 1, 1]))
        self.assertEqual(seal((5, "a")), folded([4, 2, 2, 10 ** 15, 5, 3, 1, 97]))
        self.assertEqual(seal(("a", 5)), folded([4, 2, 3, 1, 97, 2, 10 ** 15, 5]))
        self.assertEqual(seal((None,) * 40), folded([4, 40] + [1] * 40))

    def test_tuples_within_tuples(self):
        self.assertEqual(seal(((), ((),), None)), folded([4, 3, 4, 0, 4, 1, 4, 0, 1]))
        self.assertEqual(seal(nested(5)), folded([4, 1, 4, 1, 4, 1, 4, 1, 4, 0]))
        self.assertEqual(seal((1, ("b", (None, ())))),
                         folded([4, 2, 2, 10 ** 15, 1, 4, 2, 3, 1, 98, 4, 2, 1, 4, 0]))

    def test_seals_are_whole_numbers_from_1_on(self):
        for thing in things():
            self.assertIs(seal(thing).__class__, int)
            self.assertTrue(1 <= seal(thing) <= 2 ** 61 - 1)

    def test_the_least_and_the_greatest_seal(self):
        for number in (1, 2, 2 ** 61 - 2, 2 ** 61 - 1):
            self.assertEqual(seal(number_between([], [], number)), number)

    def test_a_thing_written_anew_has_its_seal(self):
        seals = [seal(thing) for thing in things()]
        self.assertEqual([seal(thing) for thing in things()], seals)
        self.assertEqual(len(set(seals)), len(seals))

    def test_unlike_things_with_one_seal(self):
        for thing, codes in [(None, [1]), (0, [2, 10 ** 15, 0]), ("a", [3, 1, 97]), ((), [4, 0])]:
            for twin in twins_of(codes, 3):
                self.assertNotEqual(twin, thing)
                self.assertEqual(seal(twin), seal(thing))

    def test_somewhat_beyond_the_bounds(self):
        self.assertEqual(seal(10 ** 30 + 1), folded([2, 2 * 10 ** 15, 1]))
        self.assertEqual(seal(-10 ** 30 - 1), folded([2, -1, 10 ** 15 - 1]))
        self.assertEqual(seal("a" * 63), folded([3, 63] + [base128("a" * 7)] * 9))
        self.assertEqual(seal((None,) * 41), folded([4, 41] + [1] * 41))
        self.assertEqual(seal(nested(6)), folded([4, 1] * 5 + [4, 0]))


if __name__ == "__main__":
    unittest.main()
