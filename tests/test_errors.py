"""The interface's errors."""

import unittest

from papervault import errors

NAMES = ["NoThing", "NoPaper", "BadThing", "Clash", "NotOn", "NoState", "NoName", "NoTable", "NoColumn", "NoRow",
         "NoQuestion", "NoPlan", "NoStep", "NotSo", "NoCommand"]


class Errors(unittest.TestCase):

    def test_vault_error_is_a_value_error(self):
        self.assertTrue(issubclass(errors.VaultError, ValueError))
        with self.assertRaises(ValueError):
            raise errors.VaultError("words")

    def test_each_stands_under_vault_error_and_bears_its_name(self):
        for name in NAMES:
            found = getattr(errors, name)
            self.assertTrue(issubclass(found, errors.VaultError), name)
            self.assertTrue(issubclass(found, ValueError), name)
            self.assertEqual(found.__name__, name)

    def test_none_stands_under_another_one(self):
        for name in NAMES:
            self.assertEqual([other for other in NAMES if issubclass(getattr(errors, name), getattr(errors, other))],
                             [name])
            self.assertFalse(issubclass(errors.VaultError, getattr(errors, name)), name)

    def test_each_can_be_raised_and_taken(self):
        for name in NAMES:
            found = getattr(errors, name)
            made = found(1, 2) if name == "Clash" else found("words")
            with self.assertRaises(errors.VaultError) as taken:
                raise made
            self.assertIs(taken.exception, made)

    def test_a_clash_has_its_two_things(self):
        clash = errors.Clash(("a", 1), None)
        self.assertEqual((clash.one, clash.other), (("a", 1), None))
        clash = errors.Clash(None, "b")
        self.assertEqual((clash.one, clash.other), (None, "b"))


if __name__ == "__main__":
    unittest.main()
