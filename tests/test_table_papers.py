"""Points 3, 18 and 21 for tables: over a paper they tell what the keeper tells, or are refused, or a clash is shown."""

import random
import unittest

from papervault.asks import Ask
from papervault.clashes import shown
from papervault.errors import NoPaper, VaultError
from papervault.papers import answer_with_paper, checked
from papervault.seals import seal
from papervault.tables import (columns_of, cut_row, drop_order, drop_table, make_order, make_table, names, ordered,
                               put_row, row_at, rows_of, table_at)
from papervault.vaults import Keeper
from tests.helper import balance, codes_of, laid_state, number_between, states


class Doing(Ask):
    """An ask that does a call of papervault.tables."""

    def __init__(self, call, *given):
        self.call = call
        self.given = given

    def answer(self, vault, root):
        return self.call(vault, root, *self.given)


def asks_for(tables):
    """Asks of each kind, for a state as states() has them."""
    found = [Doing(names), Doing(make_table, "new", ["a", "b"])]
    for name, (columns, rows, numbers) in tables.items():
        found += [Doing(call, name) for call in (table_at, columns_of, ordered, rows_of, drop_table)]
        found += [Doing(call, name, column) for call in (make_order, drop_order) for column in columns[1:]]
        firsts = [row[0] for row in rows[:4]] + [99, "zz"]
        found += [Doing(call, name, first) for call in (row_at, cut_row) for first in firsts]
        found += [Doing(put_row, name, [first] + ["new"] * (len(columns) - 1)) for first in firsts]
    return found


def numbers():
    """A state as states() has them, with rows of whole numbers alone, far from 0."""
    rows = [(key, 10 ** 11 + key, 10 ** 11 - key * key) for key in range(6)]
    return {"a": (("key", "one", "two"), rows, [1]), "b": (("key",), [(5,)], []), "c": (("one", "two"), [], [])}


def row_for(node):
    """A node with the seal of a node of numbers(), but with another row."""
    first, second = balance(3)
    row = node[1]
    return (node[0], (row[0], row[1] + first, row[2] + second)) + node[2:]


def lie_for(node):
    """A node with the seal of a node, but with another worth, and no table or row at that."""
    behind = [code for thing in node[2:] for code in codes_of(thing)]
    return (node[0], number_between([4, 5] + codes_of(node[0]), behind, seal(node))) + node[2:]


def forged_for(chance, node):
    """A node that a liar could make of a node: a part of it, or of its worth, is another."""
    place = chance.randrange(5)
    if place == 1 and isinstance(node[1], tuple):
        within = chance.randrange(len(node[1]))
        other = chance.choice([0, 5, "lie", ("lie",), None, ((1, 0),)])
        return (node[0], node[1][:within] + (other,) + node[1][within + 1:]) + node[2:]
    other = [chance.choice([9, "lie", (9, "lie")]), "lie", 0, 0, chance.randrange(1, 301)]
    return node[:place] + (other[place],) + node[place + 1:]


class TablePapers(unittest.TestCase):

    def each(self):
        """Tuples (keeper, root, ask, answer, paper) of all states and asks that are not refused."""
        for tables in states() + [numbers()]:
            keeper = Keeper()
            root = laid_state(keeper, tables)
            for ask in asks_for(tables):
                answer, paper = answer_with_paper(keeper, root, ask)
                yield keeper, root, ask, answer, paper

    def test_the_keepers_paper(self):
        for keeper, root, ask, answer, paper in self.each():
            self.assertEqual(checked(root, ask, paper), answer)
            self.assertEqual(shown(root, ask, paper, keeper), "right")

    def test_each_thing_of_it_is_needed(self):
        for keeper, root, ask, answer, paper in self.each():
            for place in range(len(paper)):
                self.assertRaises(NoPaper, checked, root, ask, paper[:place] + paper[place + 1:])

    def test_papers_spoilt(self):
        chance = random.Random(23)
        seen = {"refused": 0, "right": 0, "clash": 0}
        for keeper, root, ask, answer, paper in self.each():
            kept = keeper.things()
            for node in chance.sample(paper, min(3, len(paper))):
                others = [thing for thing in paper if thing != node]
                for spoilt in (others, others + [forged_for(chance, node)], others + [lie_for(node)],
                               paper + [lie_for(node)], paper + [forged_for(chance, node)],
                               others + [number_between([], [], seal(node))], others + kept):
                    text = shown(root, ask, spoilt, keeper)
                    self.assertIn(text, seen)
                    seen[text] += 1
            self.assertEqual(keeper.things(), kept)
        self.assertGreater(min(seen["refused"], seen["right"]), 20)

    def test_a_lie_that_is_let_by_needs_a_clash(self):
        tables = numbers()
        keeper = Keeper()
        root = laid_state(keeper, tables)
        for ask in (Doing(rows_of, "a"), Doing(row_at, "a", 3)):
            answer, paper = answer_with_paper(keeper, root, ask)
            row = tables["a"][1][3]
            node = [thing for thing in paper if thing[1] == row][0]
            lie = row_for(node)
            self.assertEqual(seal(lie), seal(node))
            forged = [lie if thing == node else thing for thing in paper]
            told = checked(root, ask, forged)
            self.assertEqual(told, [lie[1] if one == row else one for one in answer] if answer != row else lie[1])
            self.assertNotEqual(told, answer)
            self.assertEqual(shown(root, ask, forged, keeper), "clash")
            self.assertEqual(shown(root, ask, forged + [node], keeper), "refused")

    def test_refusals_are_the_keepers_too(self):
        for tables in states()[1:]:
            keeper = Keeper()
            root = laid_state(keeper, tables)
            name = sorted(tables)[0]
            for ask in (Doing(table_at, "nobody"), Doing(make_table, name, ["a"]), Doing(drop_table, "nobody"),
                        Doing(make_order, name, tables[name][0][0]), Doing(drop_order, name, "none"),
                        Doing(put_row, name, []), Doing(make_table, "New", ["a"])):
                with self.assertRaises(VaultError) as kept:
                    answer_with_paper(keeper, root, ask)
                with self.assertRaises(VaultError) as told:
                    checked(root, ask, keeper.things())
                self.assertIs(told.exception.__class__, kept.exception.__class__)
                self.assertEqual(shown(root, ask, keeper.things(), keeper), "refused")


if __name__ == "__main__":
    unittest.main()
