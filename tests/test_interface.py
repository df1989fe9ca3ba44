"""The names and arguments of the interface, as they stand there."""

import inspect
import unittest

from papervault.asks import Also, Ask, Count, Cut, Find, Nth, Put, Stretch
from papervault.clashes import clash_of, shown
from papervault.errors import Clash, VaultError
from papervault.names import is_name, is_value
from papervault.nodes import above, node_at, size
from papervault.papers import answer_with_paper, checked
from papervault.seals import seal
from papervault.tables import (columns_of, cut_row, drop_order, drop_table, make_order, make_table, names, ordered,
                               put_row, row_at, rows_of, table_at)
from papervault.things import ahead, is_thing, thing_in, written
from papervault.trees import counted, cut, found, join, nth, part, put, stretch
from papervault.vaults import Keeper, Reader, Vault, Witness
from papervault.words import value_of, words_in


def arguments(call):
    return list(inspect.signature(call).parameters)


class Interface(unittest.TestCase):

    def test_functions(self):
        self.assertEqual(arguments(is_thing), ["thing"])
        self.assertEqual(arguments(ahead), ["one", "other"])
        self.assertEqual(arguments(written), ["thing"])
        self.assertEqual(arguments(thing_in), ["text"])
        self.assertEqual(arguments(seal), ["thing"])
        self.assertEqual(arguments(node_at), ["vault", "root"])
        self.assertEqual(arguments(above), ["key", "other"])
        self.assertEqual(arguments(size), ["vault", "root"])
        self.assertEqual(arguments(found), ["vault", "root", "key"])
        self.assertEqual(arguments(stretch), ["vault", "root", "low", "high"])
        self.assertEqual(arguments(counted), ["vault", "root", "low", "high"])
        self.assertEqual(arguments(nth), ["vault", "root", "number"])
        self.assertEqual(arguments(put), ["vault", "root", "key", "worth"])
        self.assertEqual(arguments(cut), ["vault", "root", "key"])
        self.assertEqual(arguments(part), ["vault", "root", "key"])
        self.assertEqual(arguments(join), ["vault", "left", "right"])
        self.assertEqual(arguments(answer_with_paper), ["keeper", "root", "ask"])
        self.assertEqual(arguments(checked), ["root", "ask", "paper"])
        self.assertEqual(arguments(clash_of), ["paper", "keeper"])
        self.assertEqual(arguments(shown), ["root", "ask", "paper", "keeper"])
        self.assertEqual(arguments(is_name), ["thing"])
        self.assertEqual(arguments(is_value), ["thing"])
        self.assertEqual(arguments(words_in), ["text"])
        self.assertEqual(arguments(value_of), ["word"])

    def test_functions_of_tables(self):
        self.assertEqual(arguments(names), ["vault", "root"])
        for call in (table_at, columns_of, ordered, rows_of, drop_table):
            self.assertEqual(arguments(call), ["vault", "root", "name"])
        for call, last in [(row_at, "value"), (make_table, "columns"), (make_order, "column"), (drop_order, "column"),
                           (put_row, "row"), (cut_row, "value")]:
            self.assertEqual(arguments(call), ["vault", "root", "name", last])

    def test_methods(self):
        for vault in (Vault(), Keeper(), Reader(Keeper()), Witness([])):
            self.assertEqual(arguments(vault.lay), ["thing"])
            self.assertEqual(arguments(vault.thing), ["number"])
            self.assertIsInstance(vault, Vault)
        self.assertEqual(arguments(Keeper().things), [])
        self.assertEqual(arguments(Reader(Keeper()).paper), [])

    def test_asks(self):
        for made, names in [(Ask, []), (Find, ["key"]), (Stretch, ["low", "high"]), (Count, ["low", "high"]),
                            (Nth, ["number"]), (Put, ["key", "worth"]), (Cut, ["key"]), (Also, ["asks"])]:
            self.assertEqual(arguments(made), names)
            self.assertEqual(inspect.getmro(made)[-2:-1], (Ask,))
            self.assertEqual(arguments(made(*[[]] * len(names)).answer), ["vault", "root"])

    def test_classes(self):
        self.assertEqual(arguments(Vault), [])
        self.assertEqual(arguments(Keeper), [])
        self.assertEqual(len(arguments(Reader)), 1)
        self.assertEqual(len(arguments(Witness)), 1)
        self.assertEqual(arguments(Clash), ["one", "other"])
        for one in (Keeper, Reader, Witness):
            self.assertEqual(one.__bases__, (Vault,))
        self.assertEqual(Clash.__bases__, (VaultError,))


if __name__ == "__main__":
    unittest.main()
