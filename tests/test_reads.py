"""Point 15: which nodes are read."""

import unittest

from papervault.seals import seal
from papervault.trees import counted, cut, found, nth, put
from papervault.vaults import Keeper, Reader
from tests.helper import bounds_for, edge, in_order, laid, reckoned, trees, way


class Reads(unittest.TestCase):

    def setUp(self):
        self.trees = []
        for pairs in trees():
            keeper = Keeper()
            laid(keeper, pairs)
            self.trees.append((pairs, keeper) + reckoned(pairs))

    def read(self, call, keeper, root, *rest):
        """The roots of the nodes that a call reads of a keeper's."""
        reader = Reader(keeper)
        call(reader, root, *rest)
        return {seal(thing) for thing in reader.paper()}

    def children(self, nodes, roots):
        """Roots, and those of the trees under them."""
        found_there = {child for root in roots for child in nodes[root][2:4]}
        return (set(roots) | found_there) - {0}

    def reads_within(self, roots, allowed, what):
        self.assertLessEqual(roots, allowed, what)

    def test_finding_reads_its_way(self):
        for pairs, keeper, root, nodes in self.trees:
            for key in list(pairs) + bounds_for(pairs):
                self.assertEqual(self.read(found, keeper, root, key), set(way(nodes, root, key)), key)

    def test_putting_reads_its_way(self):
        for pairs, keeper, root, nodes in self.trees:
            for place, key in enumerate(list(pairs) + bounds_for(pairs)):
                self.assertEqual(self.read(put, keeper, root, key, ("new", place)), set(way(nodes, root, key)), key)
            for key in pairs:
                self.assertEqual(self.read(put, keeper, root, key, pairs[key]), set(way(nodes, root, key)), key)

    def test_cutting_what_is_not_there_reads_its_way(self):
        for pairs, keeper, root, nodes in self.trees:
            for key in bounds_for(pairs):
                if key not in pairs:
                    self.assertEqual(self.read(cut, keeper, root, key), set(way(nodes, root, key)), key)

    def test_cutting_reads_its_way_and_the_inner_edges(self):
        for pairs, keeper, root, nodes in self.trees:
            for key in pairs:
                roots = self.read(cut, keeper, root, key)
                onward = way(nodes, root, key)
                node = nodes[onward[-1]]
                self.reads_within(set(onward), roots, key)
                self.reads_within(roots, set(onward + edge(nodes, node[2], 3) + edge(nodes, node[3], 2)), key)

    def test_counting_reads_two_ways_and_their_children(self):
        for pairs, keeper, root, nodes in self.trees:
            bounds = bounds_for(pairs)
            for low in bounds:
                for high in bounds:
                    allowed = self.children(nodes, way(nodes, root, low) + way(nodes, root, high))
                    self.reads_within(self.read(counted, keeper, root, low, high), allowed, (low, high))

    def test_counting_by_one_bound_reads_one_way(self):
        for pairs, keeper, root, nodes in self.trees:
            for key in bounds_for(pairs):
                allowed = self.children(nodes, way(nodes, root, key) + [root][:len(nodes)])
                self.reads_within(self.read(counted, keeper, root, key, None), allowed, key)
                self.reads_within(self.read(counted, keeper, root, None, key), allowed, key)

    def test_counting_all_reads_the_root_and_its_children(self):
        for pairs, keeper, root, nodes in self.trees:
            allowed = self.children(nodes, [root][:len(nodes)])
            self.reads_within(self.read(counted, keeper, root, None, None), allowed, root)

    def test_the_pair_of_a_number_reads_two_ways_and_their_children(self):
        for pairs, keeper, root, nodes in self.trees:
            for number, pair in enumerate(in_order(pairs)):
                allowed = self.children(nodes, way(nodes, root, pair[0]))
                self.reads_within(self.read(nth, keeper, root, number), allowed, number)
            for number in (len(pairs), len(pairs) + 1, 300):
                allowed = self.children(nodes, edge(nodes, root, 3))
                self.reads_within(self.read(nth, keeper, root, number), allowed, number)
            self.assertEqual(self.read(nth, keeper, root, -1), set())

    def test_that_is_less_than_all(self):
        pairs, keeper, root, nodes = self.trees[5]
        self.assertEqual(len(nodes), 40)
        for key in pairs:
            self.assertLess(len(self.read(found, keeper, root, key)), 20)
            self.assertLess(len(self.read(counted, keeper, root, key, None)), 30)


if __name__ == "__main__":
    unittest.main()
