"""Points 10 and 11, nodes and ranks; and what point 18 tells of a node that is read."""

import unittest

from papervault.errors import BadThing, NoPaper
from papervault.nodes import above, node_at, size
from papervault.seals import seal
from papervault.vaults import Keeper, Reader, Vault, Witness
from tests.helper import alike_in_rank, bad_nodes, laid, rank_of, reckoned, things, twins_of

# Keys of one rank: numbers that are ahead of 5, and numbers behind it.
AHEAD_OF_FIVE = alike_in_rank(5, 2)
BEHIND_FIVE = alike_in_rank(5, 2, 10 ** 15 + 1)


def keys():
    return [thing for thing in things() if thing is not None]


class Nodes(unittest.TestCase):

    def test_a_node_as_it_was_laid(self):
        for node in [(5, "w", 0, 0, 1), ("a", 1, 0, 0, 300), ((1, ("a",)), (None, ((),)), 7, 2 ** 61, 3),
                     ("", "", 10 ** 30, 0, 2), ((), 0, 0, 1, 299), (-1, -1, 1, 1, 2)]:
            for vault in (Vault(), Keeper(), Witness([])):
                root = vault.lay(node)
                self.assertEqual(node_at(vault, root), node)
                self.assertEqual(size(vault, root), node[4])
            self.assertEqual(node_at(Witness([node]), seal(node)), node)

    def test_the_nodes_of_a_tree(self):
        pairs = {key: ("of", place) for place, key in enumerate(keys()[:60])}
        keeper = Keeper()
        root = laid(keeper, pairs)
        self.assertEqual(size(keeper, root), 60)
        for number, node in reckoned(pairs)[1].items():
            self.assertEqual(node_at(keeper, number), node)
            self.assertEqual(size(keeper, number), node[4])

    def test_no_paper(self):
        vault = Vault()
        vault.lay((5, "w", 0, 0, 1))
        for root in (1, seal((5, "w", 0, 0, 2)), 2 ** 61, -1):
            self.assertRaises(NoPaper, node_at, vault, root)
            self.assertRaises(NoPaper, size, vault, root)

    def test_bad_things(self):
        for thing in bad_nodes():
            for vault in (Keeper(), Witness([])):
                root = vault.lay(thing)
                with self.assertRaises(BadThing, msg=thing):
                    node_at(vault, root)
                with self.assertRaises(BadThing, msg=thing):
                    size(vault, root)

    def test_a_twin_of_a_node_is_no_node(self):
        twin = twins_of([4, 5, 2, 10 ** 15, 5, 3, 1, 119, 2, 10 ** 15, 0, 2, 10 ** 15, 0, 2, 10 ** 15, 1])[0]
        self.assertEqual(seal(twin), seal((5, "w", 0, 0, 1)))
        self.assertRaises(BadThing, node_at, Witness([twin]), seal((5, "w", 0, 0, 1)))

    def test_what_hangs_under_a_node_is_not_read(self):
        keeper = Keeper()
        root = keeper.lay((5, "w", 77, keeper.lay("no node"), 3))
        reader = Reader(keeper)
        self.assertEqual(node_at(reader, root), (5, "w", 77, seal("no node"), 3))
        self.assertEqual(size(reader, root), 3)
        self.assertEqual(reader.paper(), [(5, "w", 77, seal("no node"), 3)])

    def test_the_size_of_the_empty_tree(self):
        reader = Reader(Keeper())
        self.assertEqual(size(reader, 0), 0)
        self.assertEqual(reader.paper(), [])


class Ranks(unittest.TestCase):

    def test_by_rank(self):
        for key in keys():
            for other in keys():
                if key != other:
                    self.assertEqual(above(key, other), rank_of(key) > rank_of(other), (key, other))

    def test_some_ranks(self):
        self.assertGreater(seal(("rank", 0)), 0)
        for key, other in [(1, 2), ("a", "b"), (1, "a"), ((1,), 1)]:
            self.assertEqual(above(key, other), seal(("rank", key)) > seal(("rank", other)))
            self.assertEqual(above(other, key), seal(("rank", key)) < seal(("rank", other)))

    def test_neither_the_order_nor_the_seal_alone(self):
        # By its last code a rank hangs on a small number as on its size: so these go by greater steps.
        steps = range(0, 20 * 10 ** 15, 10 ** 15)
        pairs = [(key, other) for key in steps for other in steps if key != other]
        self.assertTrue(any(above(key, other) for key, other in pairs if key < other))
        self.assertTrue(any(above(key, other) for key, other in pairs if key > other))
        self.assertTrue(any(above(key, other) != (seal(key) > seal(other)) for key, other in pairs))

    def test_keys_of_one_rank(self):
        alike = AHEAD_OF_FIVE + [5] + BEHIND_FIVE
        self.assertEqual(len({seal(("rank", key)) for key in alike}), 1)
        self.assertEqual(sorted(alike), alike)
        for place, key in enumerate(alike):
            for its, other in enumerate(alike):
                self.assertEqual(above(key, other), place < its)

    def test_keys_of_one_rank_and_unlike_kinds(self):
        for key in ("a", (), ("a", 1)):
            number = alike_in_rank(key, 1)[0]
            self.assertEqual(seal(("rank", key)), seal(("rank", number)))
            self.assertIs(above(number, key), True)
            self.assertIs(above(key, number), False)

    def test_a_key_and_itself(self):
        for key in keys() + AHEAD_OF_FIVE:
            self.assertIs(above(key, key), False)


if __name__ == "__main__":
    unittest.main()
