"""The names and arguments of the interface, as they stand there."""

import inspect
import unittest

from papervault.errors import Clash, VaultError
from papervault.seals import seal
from papervault.things import ahead, is_thing, thing_in, written
from papervault.vaults import Keeper, Reader, Vault, Witness


def arguments(call):
    return list(inspect.signature(call).parameters)


class Interface(unittest.TestCase):

    def test_functions(self):
        self.assertEqual(arguments(is_thing), ["thing"])
        self.assertEqual(arguments(ahead), ["one", "other"])
        self.assertEqual(arguments(written), ["thing"])
        self.assertEqual(arguments(thing_in), ["text"])
        self.assertEqual(arguments(seal), ["thing"])

    def test_methods(self):
        for vault in (Vault(), Keeper(), Reader(Keeper()), Witness([])):
            self.assertEqual(arguments(vault.lay), ["thing"])
            self.assertEqual(arguments(vault.thing), ["number"])
            self.assertIsInstance(vault, Vault)
        self.assertEqual(arguments(Keeper().things), [])
        self.assertEqual(arguments(Reader(Keeper()).paper), [])

    def test_classes(self):
        self.assertEqual(arguments(Vault), [])
        self.assertEqual(arguments(Keeper), [])
        self.assertEqual(len(arguments(Reader)), 1)
        self.assertEqual(len(arguments(Witness)), 1)
        self.assertEqual(arguments(Clash), ["one", "other"])
        for one in (Keeper, Reader, Witness):
            self.assertEqual(one.__bases__, (Vault,))
        self.assertEqual(Clash.__bases__, (VaultError,))


if __name__ == "__main__":
    unittest.main()
