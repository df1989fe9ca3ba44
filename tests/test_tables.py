"""Points 23 and 24: a state and its tables, rows and orders, and what is told of them."""

import unittest

from papervault.errors import BadThing, NoPaper, NoTable
from papervault.tables import (columns_of, cut_row, drop_order, drop_table, make_order, make_table, names, ordered,
                               put_row, row_at, rows_of, table_at)
from papervault.vaults import Keeper, Vault
from tests.helper import laid, laid_state, order_of, reckoned, states

GOOD = (("key", "name", "age"), 0, ((1, 0), (2, 0)))

# Worths that are no tables, of each kind; each has its own reason alone.
NO_TABLES = [
    0, 7, "", "people", (), (("key",),), (("key",), 0), (("key",), 0, (), ()), GOOD[:2], GOOD + (0,), (GOOD,),
] + [(columns, 0, ()) for columns in [
    "key", "k", 5, None, (), ("key", "key"), ("a", "b", "a"), ("a", "b", "c", "d", "e", "f", "g"), ("Key",), ("",),
    ("abcdefghi",), (5,), (None,), (("key",),), ("key", ""), ("key", 5), ("key", None), ("key", "Name"), ("key", ()),
    ("a", "b", "c", "d", "e", "f1"), ("a", "b", "c", "d", "e", "a")]
] + [(("key", "name", "age"), rows, ()) for rows in [
    -1, -10 ** 30, None, "", "0", (), (0,)]
] + [(("key", "name", "age"), 0, orders) for orders in [
    None, 0, 1, "", "1", (1,), (1, 0), ((),), ((1,),), ((1, 0, 0),), (((1, 0),),), ((0, 0),), ((-1, 0),), ((3, 0),),
    ((4, 0),), ((1, 0), (1, 0)), ((2, 0), (1, 0)), ((1, 0), (0, 0)), ((1, 0), (3, 0)), ((1, -1),), ((1, None),),
    ((1, "0"),), ((1, ()),), (("1", 0),), ((None, 0),), (((), 0),), ((1, 0), (2, -5)), ((1, 0), (2, 0), (2, 0)),
    ((1, 0), 2), ((1, 0), None), ((10 ** 30, 0),)]
] + [(("key",), 0, ((1, 0),)), (("key",), 0, ((0, 0),)), (("a", "b"), 0, ((2, 0),))]

# Rows that are none of such a table under the key 5.
NO_ROWS = [
    5, "a", "abc", (), (5,), (5, "a"), (5, "a", 1, 2), (5, "a", None), (5, None, 1), (5, "a", ()), (5, ("a",), 1),
    (5, "a%", 1), (5, "it's", 1), (5, "a;", 1), (5, "x" * 21, 1), (5, 10 ** 12 + 1, 1), (5, "a", -10 ** 12 - 1),
    (6, "a", 1), (4, "a", 1), ("5", "a", 1), (None, "a", 1), ((5,), "a", 1), ((5, "a", 1),),
]

# Keys that are no names.
NO_NAMES = [0, 5, "", "People", "abcdefghi", "a b", "a1", ("a",), (), -1, "~"]

READS = [columns_of, ordered, rows_of, table_at, lambda vault, root, name: row_at(vault, root, name, 5)]
CHANGES = [drop_table, lambda vault, root, name: make_table(vault, root, name, ["a"]),
           lambda vault, root, name: make_order(vault, root, name, "name"),
           lambda vault, root, name: drop_order(vault, root, name, "name"),
           lambda vault, root, name: put_row(vault, root, name, [5, "a", 1]),
           lambda vault, root, name: cut_row(vault, root, name, 5)]


class Told(unittest.TestCase):
    """Point 24, of states reckoned by point 23's words."""

    def test_what_is_told_of_a_state(self):
        for tables in states():
            vault = Vault()
            root = laid_state(vault, tables)
            self.assertEqual(names(vault, root), sorted(tables))
            for name, (columns, rows, numbers) in tables.items():
                self.assertEqual(columns_of(vault, root, name), columns)
                self.assertEqual(ordered(vault, root, name), numbers)
                self.assertEqual(rows_of(vault, root, name), sorted(rows, key=lambda row: order_of(row[0])))
                for row in rows:
                    self.assertEqual(row_at(vault, root, name, row[0]), row)
                for value in (99, -99, 10 ** 12, "zz", "1", " "):
                    self.assertIsNone(row_at(vault, root, name, value))

    def test_a_table(self):
        rows = [(1, "b"), (2, "a"), ("x", 7)]
        vault = Vault()
        root = laid_state(vault, {"other": (("a",), [], []), "people": (("key", "name"), rows, [1])})
        rows_root = reckoned({row[0]: row for row in rows})[0]
        order_root = reckoned({(row[1], row[0]): 1 for row in rows})[0]
        self.assertEqual(table_at(vault, root, "people"), (("key", "name"), rows_root, ((1, order_root),)))
        self.assertEqual(table_at(vault, root, "other"), (("a",), 0, ()))

    def test_the_empty_state(self):
        vault = Vault()
        self.assertEqual(names(vault, 0), [])
        for read in READS:
            self.assertRaises(NoTable, read, vault, 0, "people")

    def test_rows_rise_by_first_values_numbers_ahead_of_texts(self):
        rows = [("10", 1), (10, 2), ("9", 3), (9, 4), ("", 5), (-10 ** 12, 6), ("a b", 7), ("B", 8), (0, 9), ("a", 10)]
        vault = Vault()
        root = laid_state(vault, {"t": (("a", "b"), rows, [])})
        self.assertEqual([row[1] for row in rows_of(vault, root, "t")], [6, 9, 4, 2, 5, 1, 3, 8, 10, 7])

    def test_no_table(self):
        for tables in states():
            vault = Vault()
            root = laid_state(vault, tables)
            for name in ("nobody", "peopl", "peoples", "b", "z", "", "People", "a b", "abcdefghi"):
                for read in READS:
                    self.assertRaises(NoTable, read, vault, root, name)

    def test_what_lacks(self):
        root = laid_state(Vault(), states()[-1])
        for read in READS:
            self.assertRaises(NoPaper, read, Vault(), root, "people")
        self.assertRaises(NoPaper, names, Vault(), root)

    def test_six_columns_and_three_hundred_rows(self):
        columns = ("a", "b", "c", "d", "e", "f")
        rows = [(number, number % 7, "x" * (number % 20), -number, 10 ** 12 - number, "") for number in range(300)]
        vault = Vault()
        root = laid_state(vault, {"t": (columns, rows, [1, 2, 3, 4, 5])})
        self.assertEqual(rows_of(vault, root, "t"), rows)
        self.assertEqual(ordered(vault, root, "t"), [1, 2, 3, 4, 5])
        self.assertEqual(row_at(vault, root, "t", 299), rows[299])

    def test_nothing_is_laid(self):
        for tables in states():
            keeper = Keeper()
            root = laid_state(keeper, tables)
            kept = keeper.things()
            names(keeper, root)
            for name in tables:
                for read in READS:
                    read(keeper, root, name)
            self.assertEqual(keeper.things(), kept)


class Own(unittest.TestCase):
    """Point 2: what is told is the asker's own."""

    def test_lists(self):
        vault = Vault()
        root = laid_state(vault, states()[-1])
        for read in (lambda: names(vault, root), lambda: ordered(vault, root, "people"),
                     lambda: rows_of(vault, root, "people"), lambda: ordered(vault, root, "empty"),
                     lambda: rows_of(vault, root, "empty"), lambda: names(vault, 0)):
            told, other = read(), read()
            self.assertIs(told.__class__, list)
            copy = list(told)
            told.append("more")
            told.reverse()
            self.assertEqual(other, copy)
            self.assertEqual(read(), copy)

    def test_kinds(self):
        vault = Vault()
        root = laid_state(vault, states()[-1])
        self.assertIs(table_at(vault, root, "people").__class__, tuple)
        self.assertIs(columns_of(vault, root, "people").__class__, tuple)
        self.assertIs(row_at(vault, root, "people", 1).__class__, tuple)
        for row in rows_of(vault, root, "people"):
            self.assertIs(row.__class__, tuple)


class Looked(unittest.TestCase):
    """Point 23: what is read as a name, a table, a row and is none."""

    def test_what_is_no_table(self):
        for worth in NO_TABLES:
            vault = Vault()
            root = laid(vault, {"people": worth})
            for call in READS + CHANGES:
                with self.assertRaises(BadThing, msg=worth):
                    call(vault, root, "people")

    def test_what_is_a_table(self):
        for worth in [GOOD, (("a",), 0, ()), (("a", "b", "c", "d", "e", "f"), 0, ()), (("a", "b"), 7, ()),
                      (("key", "name", "age"), 0, ((2, 0),)), (("abcdefgh", "a"), 0, ((1, 0),)),
                      (("a", "b", "c"), 2 ** 61 - 1, ((1, 5), (2, 2 ** 61 - 1)))]:
            vault = Vault()
            root = laid(vault, {"people": worth})
            self.assertEqual(table_at(vault, root, "people"), worth)
            self.assertEqual(columns_of(vault, root, "people"), worth[0])
            self.assertEqual(ordered(vault, root, "people"), [order[0] for order in worth[2]])

    def test_another_table_is_not_looked_at(self):
        for worth in NO_TABLES:
            vault = Vault()
            root = laid(vault, {"people": worth, "others": GOOD, "more": GOOD})
            for name in ("others", "more"):
                self.assertEqual(table_at(vault, root, name), GOOD)
                for call in READS + CHANGES[2:]:
                    call(vault, root, name)
            # Names alone are read here.
            self.assertEqual(names(vault, root), ["more", "others", "people"])

    def test_what_is_no_name(self):
        for name in NO_NAMES:
            vault = Vault()
            root = laid(vault, {name: GOOD, "people": GOOD})
            self.assertRaises(BadThing, names, vault, root)
            for call in READS + CHANGES[:1] + CHANGES[2:]:
                self.assertRaises(BadThing, call, vault, root, name)
            self.assertRaises(BadThing, names, vault, laid(vault, {name: GOOD}))

    def test_what_is_no_row(self):
        for row in NO_ROWS:
            vault = Vault()
            rows = laid(vault, {5: row, 6: (6, "b", 2), 4: (4, "c", 3)})
            root = laid(vault, {"people": (GOOD[0], rows, ())})
            self.assertRaises(BadThing, rows_of, vault, root, "people")
            self.assertRaises(BadThing, row_at, vault, root, "people", 5)
            self.assertRaises(BadThing, make_order, vault, root, "people", "age")
            self.assertRaises(BadThing, put_row, vault, root, "people", [5, "a", 1])
            self.assertRaises(BadThing, cut_row, vault, root, "people", 5)

    def test_another_row_is_not_looked_at(self):
        for row in NO_ROWS:
            vault = Vault()
            rows = laid(vault, {5: row, 6: (6, "b", 2), 4: (4, "c", 3)})
            root = laid(vault, {"people": (GOOD[0], rows, ())})
            self.assertEqual(row_at(vault, root, "people", 6), (6, "b", 2))
            self.assertEqual(row_at(vault, root, "people", 4), (4, "c", 3))
            self.assertIsNone(row_at(vault, root, "people", 7))
            self.assertEqual(columns_of(vault, root, "people"), GOOD[0])
            for key in (4, 6, 7):
                behind = put_row(vault, root, "people", [key, "new", 9])
                self.assertEqual(row_at(vault, behind, "people", key), (key, "new", 9))
                self.assertIsNone(row_at(vault, cut_row(vault, root, "people", key), "people", key))

    def test_keys_of_rows_that_are_no_values(self):
        for key in [(), (5,), ("a",), "a%", "it's", "a;", "x" * 21, 10 ** 12 + 1, -10 ** 13]:
            vault = Vault()
            rows = laid(vault, {key: (key, "a", 1)})
            root = laid(vault, {"people": (GOOD[0], rows, ())})
            self.assertRaises(BadThing, rows_of, vault, root, "people")
            self.assertRaises(BadThing, row_at, vault, root, "people", key)
            self.assertRaises(BadThing, cut_row, vault, root, "people", key)

    def test_what_is_no_node(self):
        vault = Vault()
        wrong = vault.lay("no node")
        root = laid(vault, {"people": (GOOD[0], wrong, ())})
        self.assertRaises(BadThing, rows_of, vault, root, "people")
        self.assertRaises(BadThing, row_at, vault, root, "people", 5)
        self.assertRaises(BadThing, names, vault, wrong)
        for call in READS + CHANGES:
            self.assertRaises(BadThing, call, vault, wrong, "people")

    def test_orders_that_lead_to_no_node(self):
        vault = Vault()
        wrong = vault.lay("no node")
        rows = laid(vault, {5: (5, "a", 1)})
        for orders in (((1, wrong),), ((2, wrong),), ((1, 0), (2, wrong))):
            root = laid(vault, {"people": (GOOD[0], rows, orders)})
            self.assertRaises(BadThing, put_row, vault, root, "people", [5, "b", 2])
            self.assertRaises(BadThing, put_row, vault, root, "people", [6, "b", 2])
            self.assertRaises(BadThing, cut_row, vault, root, "people", 5)
            # Here no order is read.
            self.assertEqual(rows_of(vault, root, "people"), [(5, "a", 1)])
            self.assertEqual(cut_row(vault, root, "people", 6), root)

    def test_rows_are_looked_at_as_many_as_there_are(self):
        # A node that says more than it has is refused where all rows are read.
        vault = Vault()
        rows = vault.lay((5, (5, "a", 1), 0, 0, 2))
        root = laid(vault, {"people": (GOOD[0], rows, ())})
        self.assertRaises(BadThing, rows_of, vault, root, "people")
        self.assertEqual(row_at(vault, root, "people", 5), (5, "a", 1))


if __name__ == "__main__":
    unittest.main()
