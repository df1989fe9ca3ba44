"""Point 25: the changes of a state, what they refuse, and in which order."""

import random
import unittest

from papervault.errors import BadThing, NoColumn, NoName, NoPaper, NoRow, NoTable
from papervault.tables import (columns_of, cut_row, drop_order, drop_table, make_order, make_table, names, ordered,
                               put_row, row_at, rows_of, table_at)
from papervault.vaults import Keeper, Vault
from tests.helper import brief, laid, laid_state, no_things, order_of, reckoned_state, states

COLUMNS = ["key", "name", "age"]

NO_NAMES = ["", "People", "abcdefghi", "a b", "a1", "a.b", "'a'", "~", "\n", None, 0, 5, (), ("a",), ["a"], {}, True]

NO_COLUMNS = [
    [], ["a", "a"], ["a", "b", "a"], ["a", "b", "c", "d", "e", "f", "g"], ["a"] * 7, ["a"] * 300,
    ["a", "b", "c", "d", "e", "f", "a"], ["a", "b", "c", "d", "e", "a"],
] + [[wrong] for wrong in NO_NAMES] + [["a", wrong] for wrong in NO_NAMES] + [["a", wrong, "b"] for wrong in NO_NAMES]

NO_ROWS = [[], [1], [1, 2], [1, 2, 3, 4], [1] * 300, [[1, 2, 3]], [(1, 2, 3)]]
for bad in [None, True, False, (), (1,), [], [1], {}, 1.0, b"a", 10 ** 12 + 1, -10 ** 12 - 1, "x" * 21, "a%", "it's",
            "a;", "a\nb", "\u00e4", set()]:
    NO_ROWS += [[bad, "a", 1], [1, bad, 1], [1, "a", bad]]


def row_count(tables):
    """How many rows all tables have."""
    return sum(len(rows) for columns, rows, numbers in tables.values())


class Made(unittest.TestCase):
    """Tables made and dropped."""

    def test_a_table_is_made(self):
        for columns in (["a"], COLUMNS, ["a", "b", "c", "d", "e", "f"], ["where", "show"], ["abcdefgh", "z"]):
            for tables in states():
                vault = Vault()
                root = laid_state(vault, tables)
                behind = make_table(vault, root, "new", columns)
                self.assertEqual(behind, reckoned_state({**tables, "new": (tuple(columns), [], [])})[0])
                self.assertEqual(table_at(vault, behind, "new"), (tuple(columns), 0, ()))
                self.assertEqual(names(vault, behind), sorted(list(tables) + ["new"]))

    def test_a_name_that_is_none(self):
        for name in NO_NAMES + no_things():
            for root in (0, laid_state(Vault(), states()[-1])):
                # Nothing is read for it: the vault is empty.
                self.assertRaises(NoName, make_table, Vault(), root, name, ["a"])

    def test_columns_that_are_none(self):
        for columns in NO_COLUMNS + [[wrong] for wrong in no_things()]:
            with self.assertRaises(NoName, msg=brief(columns)):
                make_table(Vault(), 0, "people", columns)

    def test_no_name_goes_ahead_of_no_table(self):
        vault = Vault()
        root = laid_state(vault, states()[-1])
        for columns in NO_COLUMNS:
            self.assertRaises(NoName, make_table, vault, root, "people", columns)
        self.assertRaises(NoTable, make_table, vault, root, "people", ["a"])

    def test_a_table_that_stands(self):
        for tables in states():
            vault = Vault()
            root = laid_state(vault, tables)
            for name, (columns, rows, numbers) in tables.items():
                self.assertRaises(NoTable, make_table, vault, root, name, list(columns))
                self.assertRaises(NoTable, make_table, vault, root, name, ["other"])

    def test_what_stands_there_is_read_as_a_table(self):
        vault = Vault()
        root = laid(vault, {"people": "no table"})
        self.assertRaises(BadThing, make_table, vault, root, "people", ["a"])
        self.assertRaises(BadThing, drop_table, vault, root, "people")

    def test_a_table_is_dropped(self):
        for tables in states():
            vault = Vault()
            root = laid_state(vault, tables)
            for name in tables:
                behind = drop_table(vault, root, name)
                left = {other: tables[other] for other in tables if other != name}
                self.assertEqual(behind, reckoned_state(left)[0])
                self.assertRaises(NoTable, table_at, vault, behind, name)
                self.assertRaises(NoTable, drop_table, vault, behind, name)

    def test_a_state_without_tables_is_0(self):
        vault = Vault()
        root = make_table(vault, make_table(vault, 0, "a", ["a"]), "b", ["b"])
        root = put_row(vault, make_order(vault, make_table(vault, root, "c", ["a", "b"]), "c", "b"), "c", [1, 2])
        for name in ("b", "c", "a"):
            self.assertNotEqual(root, 0)
            root = drop_table(vault, root, name)
        self.assertEqual(root, 0)
        self.assertEqual(drop_table(vault, make_table(vault, 0, "a", ["a"]), "a"), 0)


class NoTables(unittest.TestCase):
    """NoTable, ahead of NoColumn and NoRow."""

    def test_no_table(self):
        for tables in states():
            vault = Vault()
            root = laid_state(vault, tables)
            for name in ("nobody", "peopl", "peoples", "zz", "", "People"):
                self.assertRaises(NoTable, drop_table, vault, root, name)
                for column in ("name", "key", "none", "", None, 5):
                    self.assertRaises(NoTable, make_order, vault, root, name, column)
                    self.assertRaises(NoTable, drop_order, vault, root, name, column)
                for row in NO_ROWS + [[1, "a", 1]]:
                    self.assertRaises(NoTable, put_row, vault, root, name, row)
                for value in (1, "a", 99):
                    self.assertRaises(NoTable, cut_row, vault, root, name, value)

    def test_a_vault_that_lacks_the_state(self):
        root = laid_state(Vault(), states()[-1])
        self.assertRaises(NoPaper, make_table, Vault(), root, "people", ["a"])
        self.assertRaises(NoPaper, drop_table, Vault(), root, "people")
        self.assertRaises(NoPaper, make_order, Vault(), root, "people", "none")
        self.assertRaises(NoPaper, drop_order, Vault(), root, "people", "none")
        self.assertRaises(NoPaper, put_row, Vault(), root, "people", [])
        self.assertRaises(NoPaper, cut_row, Vault(), root, "people", 1)


class Orders(unittest.TestCase):
    """Orders made and dropped."""

    def test_each_order_of_each_state(self):
        for tables in states():
            vault = Vault()
            root = laid_state(vault, tables)
            for name, (columns, rows, numbers) in tables.items():
                for number, column in list(enumerate(columns))[1:]:
                    for change, more in ((make_order, {number}), (drop_order, set())):
                        behind = change(vault, root, name, column)
                        left = sorted(set(numbers) - {number} | more)
                        self.assertEqual(behind, reckoned_state({**tables, name: (columns, rows, left)})[0])
                        self.assertEqual(ordered(vault, behind, name), left)
                        self.assertEqual(rows_of(vault, behind, name), rows_of(vault, root, name))

    def test_no_column(self):
        for tables in states():
            vault = Vault()
            root = laid_state(vault, tables)
            for name, (columns, rows, numbers) in tables.items():
                for column in (columns[0], "none", "zzzzzzzz", "", "Name", columns[-1] + "x", columns[0][:-1], 1, 0,
                               None, (), [], True):
                    self.assertRaises(NoColumn, make_order, vault, root, name, column)
                    self.assertRaises(NoColumn, drop_order, vault, root, name, column)

    def test_an_order_is_made_anew(self):
        # What an order that is there says is not asked.
        tables = {"people": (("key", "name"), [(1, "b"), (2, "a")], [1])}
        for wrong in (0, 5, reckoned_state(tables)[0]):
            vault = Vault()
            root = laid_state(vault, tables)
            columns, rows, orders = table_at(vault, root, "people")
            forged = laid(vault, {"people": (columns, rows, ((1, wrong),))})
            self.assertNotEqual(forged, root)
            self.assertEqual(make_order(vault, forged, "people", "name"), root)

    def test_an_order_that_is_not_there_is_dropped_without_any_change(self):
        for tables in states():
            keeper = Keeper()
            root = laid_state(keeper, tables)
            kept = keeper.things()
            for name, (columns, rows, numbers) in tables.items():
                for number in range(1, len(columns)):
                    if number not in numbers:
                        self.assertEqual(drop_order(keeper, root, name, columns[number]), root)
            self.assertEqual(keeper.things(), kept)

    def test_an_order_made_ahead_of_rows_and_behind(self):
        rows = [[3, "c", 31], [1, "a", 27], [2, "b", 31], ["x", "a", ""]]
        vault = Vault()
        bare = make_table(vault, 0, "people", COLUMNS)
        ahead_of = make_order(vault, make_order(vault, bare, "people", "name"), "people", "age")
        behind = bare
        between = make_order(vault, bare, "people", "age")
        for number, row in enumerate(rows):
            ahead_of = put_row(vault, ahead_of, "people", row)
            behind = put_row(vault, behind, "people", rows[-1 - number])
            between = put_row(vault, between, "people", row)
            if number == 1:
                between = make_order(vault, between, "people", "name")
        behind = make_order(vault, make_order(vault, behind, "people", "age"), "people", "name")
        whole = reckoned_state({"people": (tuple(COLUMNS), [tuple(row) for row in rows], [1, 2])})[0]
        self.assertEqual([ahead_of, behind, between], [whole] * 3)

    def test_three_hundred_rows(self):
        rows = [(number, -number, "x" * (number % 3)) for number in range(300)]
        vault = Vault()
        root = laid_state(vault, {"t": (("a", "b", "c"), rows, [])})
        root = make_order(vault, make_order(vault, root, "t", "b"), "t", "c")
        self.assertEqual(root, reckoned_state({"t": (("a", "b", "c"), rows, [1, 2])})[0])


class Rows(unittest.TestCase):
    """Rows put and cut."""

    def test_a_row_is_put(self):
        for tables in states():
            vault = Vault()
            root = laid_state(vault, tables)
            for name, (columns, rows, numbers) in tables.items():
                many = len(columns)
                for first in (7, -10 ** 12, "new", ""):
                    for row in ([first] + ["x"] * (many - 1), [first] + list(range(many - 1)), [first] * many):
                        behind = put_row(vault, root, name, row)
                        others = [other for other in rows if other[0] != first]
                        table = (columns, others + [tuple(row)], numbers)
                        self.assertEqual(behind, reckoned_state({**tables, name: table})[0])
                        self.assertEqual(row_at(vault, behind, name, first), tuple(row))

    def test_a_row_in_the_place_of_another(self):
        for tables in states():
            vault = Vault()
            root = laid_state(vault, tables)
            for name, (columns, rows, numbers) in tables.items():
                for row in rows:
                    for place in range(len(columns)):
                        new = list(row)
                        new[place] = row[0] if place == 0 else "other"
                        behind = put_row(vault, root, name, new)
                        table = (columns, [tuple(new) if other == row else other for other in rows], numbers)
                        self.assertEqual(behind, reckoned_state({**tables, name: table})[0])
                        self.assertEqual(row_at(vault, behind, name, row[0]), tuple(new))
                        self.assertEqual(len(rows_of(vault, behind, name)), len(rows))
                    # The same row again is no change.
                    self.assertEqual(put_row(vault, root, name, list(row)), root)

    def test_no_row(self):
        for numbers in ([], [1], [1, 2]):
            vault = Vault()
            root = laid_state(vault, {"people": (tuple(COLUMNS), [(1, "a", 1), (2, "b", 2)], numbers)})
            for row in NO_ROWS:
                with self.assertRaises(NoRow, msg=brief(row)):
                    put_row(vault, root, "people", row)
            for wrong in no_things():
                self.assertRaises(NoRow, put_row, vault, root, "people", [5, wrong, 1])
                self.assertRaises(NoRow, put_row, vault, root, "people", [wrong, "a", 1])

    def test_values_at_the_bounds(self):
        vault = Vault()
        root = make_order(vault, make_table(vault, 0, "people", COLUMNS), "people", "age")
        for row in ([10 ** 12, -10 ** 12, 0], ["", "x" * 20, " "], ["~" * 20, "\"", "-0"]):
            root = put_row(vault, root, "people", row)
            self.assertEqual(row_at(vault, root, "people", row[0]), tuple(row))
        self.assertEqual(len(rows_of(vault, root, "people")), 3)

    def test_a_row_is_cut(self):
        for tables in states():
            vault = Vault()
            root = laid_state(vault, tables)
            for name, (columns, rows, numbers) in tables.items():
                for row in rows:
                    behind = cut_row(vault, root, name, row[0])
                    table = (columns, [other for other in rows if other != row], numbers)
                    self.assertEqual(behind, reckoned_state({**tables, name: table})[0])
                    self.assertIsNone(row_at(vault, behind, name, row[0]))

    def test_a_row_that_is_not_there_is_cut(self):
        for tables in states():
            keeper = Keeper()
            root = laid_state(keeper, tables)
            kept = keeper.things()
            for name in tables:
                for value in (99, -1, "zz", "1", " ", 10 ** 12 - 5):
                    self.assertEqual(cut_row(keeper, root, name, value), root)
            self.assertEqual(keeper.things(), kept)

    def test_the_last_row_is_cut(self):
        vault = Vault()
        bare = make_order(vault, make_table(vault, 0, "people", COLUMNS), "people", "age")
        root = put_row(vault, put_row(vault, bare, "people", [1, "a", 5]), "people", [2, "b", 5])
        self.assertEqual(cut_row(vault, cut_row(vault, root, "people", 1), "people", 2), bare)
        self.assertEqual(cut_row(vault, cut_row(vault, root, "people", 2), "people", 1), bare)

    def test_the_number_1_and_the_text_1(self):
        vault = Vault()
        root = make_table(vault, 0, "t", ["a", "b"])
        root = put_row(vault, put_row(vault, root, "t", [1, "number"]), "t", ["1", "text"])
        self.assertEqual(rows_of(vault, root, "t"), [(1, "number"), ("1", "text")])
        self.assertEqual(rows_of(vault, cut_row(vault, root, "t", 1), "t"), [("1", "text")])


class Stays(unittest.TestCase):
    """An elder root still tells what it told; and point 2."""

    def told(self, vault, root):
        """All that a state tells."""
        return [(name, table_at(vault, root, name), columns_of(vault, root, name), ordered(vault, root, name),
                 rows_of(vault, root, name)) for name in names(vault, root)]

    def test_elder_roots(self):
        vault = Vault()
        root = laid_state(vault, states()[-1])
        first = self.told(vault, root)
        elder = [(root, first)]
        for change in ((put_row, "people", [1, "other", 0]), (cut_row, "people", 2), (make_order, "people", "age"),
                       (drop_order, "people", "name"), (drop_table, "towns"), (make_table, "new", ["a"]),
                       (put_row, "new", [5]), (drop_table, "people")):
            root = change[0](vault, root, *change[1:])
            elder.append((root, self.told(vault, root)))
            for other, told in elder:
                self.assertEqual(self.told(vault, other), told)
        self.assertEqual(len(set(other for other, told in elder)), len(elder))

    def test_lists_handed_in(self):
        vault = Vault()
        columns = ["key", "name", "age"]
        root = make_table(vault, 0, "people", columns)
        self.assertEqual(columns, ["key", "name", "age"])
        columns[1] = "x"
        columns.append("y")
        self.assertEqual(columns_of(vault, root, "people"), ("key", "name", "age"))
        row = [1, "ann", 31]
        behind = put_row(vault, make_order(vault, root, "people", "age"), "people", row)
        self.assertEqual(row, [1, "ann", 31])
        row[1] = "bob"
        row.clear()
        self.assertEqual(rows_of(vault, behind, "people"), [(1, "ann", 31)])

    def test_what_is_refused_changes_nothing(self):
        keeper = Keeper()
        root = laid_state(keeper, states()[-1])
        kept = keeper.things()
        self.assertRaises(NoName, make_table, keeper, root, "New", ["a"])
        self.assertRaises(NoTable, make_table, keeper, root, "people", ["a"])
        self.assertRaises(NoTable, drop_table, keeper, root, "new")
        self.assertRaises(NoColumn, make_order, keeper, root, "people", "key")
        self.assertRaises(NoColumn, drop_order, keeper, root, "people", "none")
        self.assertRaises(NoRow, put_row, keeper, root, "people", [1, 2])
        self.assertEqual(keeper.things(), kept)


class OneRoot(unittest.TestCase):
    """A state's root hangs on its tables, rows and orders alone."""

    def change(self, chance, vault, root, tables):
        """A change of a state and of the dict that tells it; told is the new root."""
        name = chance.choice(["a", "b", "people", "towns"])
        columns, rows, numbers = tables.get(name, (None, None, None))
        if columns is None:
            columns = chance.sample(["key", "a", "b", "name", "age", "z"], chance.randrange(1, 6))
            tables[name] = (tuple(columns), [], [])
            return make_table(vault, root, name, columns)
        what = chance.randrange(12)
        if what == 0:
            tables.pop(name)
            return drop_table(vault, root, name)
        if what in (1, 2, 3) and len(columns) > 1:
            number = chance.randrange(1, len(columns))
            left = sorted(set(numbers) - {number} | ({number} if what > 1 else set()))
            tables[name] = (columns, rows, left)
            return (make_order if what > 1 else drop_order)(vault, root, name, columns[number])
        first = chance.choice([0, 1, 2, 3, "", "a", "1"])
        left = [row for row in rows if row[0] != first]
        if what in (4, 5):
            tables[name] = (columns, left, numbers)
            return cut_row(vault, root, name, first)
        row = [first] + [chance.choice([0, 1, "", "a", 10 ** 12]) for column in columns[1:]]
        tables[name] = (columns, left + [tuple(row)], numbers)
        return put_row(vault, root, name, row)

    def test_by_many_changes(self):
        chance = random.Random(25)
        most = 0
        for turn in range(12):
            vault, root, tables = Vault(), 0, {}
            for number in range(80):
                root = self.change(chance, vault, root, tables)
                self.assertEqual(root, reckoned_state(tables)[0])
                most = max(most, row_count(tables))
            self.assertEqual(names(vault, root), sorted(tables))
            for name, (columns, rows, numbers) in tables.items():
                self.assertEqual(columns_of(vault, root, name), columns)
                self.assertEqual(ordered(vault, root, name), numbers)
                self.assertEqual(rows_of(vault, root, name), sorted(rows, key=lambda row: order_of(row[0])))
        self.assertGreater(most, 10)

    def test_the_same_tables_by_several_ways(self):
        tables = states()[-1]
        whole = reckoned_state(tables)[0]
        chance = random.Random(26)
        for turn in range(6):
            vault = Vault()
            root = make_table(vault, 0, "gone", ["a", "b"])
            steps = [(make_table, name, list(columns)) for name, (columns, rows, numbers) in tables.items()]
            chance.shuffle(steps)
            later = [(put_row, name, list(row)) for name, (columns, rows, numbers) in tables.items() for row in rows]
            later += [(make_order, name, columns[number]) for name, (columns, rows, numbers) in tables.items()
                      for number in numbers]
            later += [(cut_row, "people", 77), (put_row, "gone", [1, 2]), (drop_order, "people", "age")]
            chance.shuffle(later)
            for call, name, given in steps + later:
                root = call(vault, root, name, given)
            self.assertEqual(drop_table(vault, root, "gone"), whole)


if __name__ == "__main__":
    unittest.main()
