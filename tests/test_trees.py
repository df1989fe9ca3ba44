"""Points 12 to 14: finding, stretches, counting, the pair of a number; puts, cuts, partings and joinings."""

import random
import unittest

from papervault.errors import Clash, NoPaper
from papervault.seals import seal
from papervault.trees import counted, cut, found, join, nth, part, put, stretch
from papervault.vaults import Keeper, Reader, Vault
from tests.helper import (alike_in_rank, bounds_for, codes_of, in_order, laid, order_of, reckoned, spread, things,
                          trees, twins_of)


def within(pairs, low, high):
    """The pairs of a stretch, by point 12's words."""
    return [pair for pair in in_order(pairs)
            if (low is None or order_of(low) <= order_of(pair[0]))
            and (high is None or order_of(pair[0]) < order_of(high))]


def deep(thing):
    """How deep tuples stand in a thing."""
    return 1 + max([deep(one) for one in thing], default=0) if isinstance(thing, tuple) else 0


def put_all(vault, pairs, keys, root=0):
    for key in keys:
        root = put(vault, root, key, pairs[key])
    return root


class Asked(unittest.TestCase):
    """Point 12."""

    def test_found(self):
        for pairs in trees():
            keeper = Keeper()
            root = laid(keeper, pairs)
            for key in list(pairs) + bounds_for(pairs):
                self.assertEqual(found(keeper, root, key), pairs.get(key), key)

    def test_found_by_kind_too(self):
        keeper = Keeper()
        root = laid(keeper, {1: "number", "1": "text", (1,): "tuple", ("1",): "other"})
        self.assertEqual([found(keeper, root, key) for key in (1, "1", (1,), ("1",), ((1,),))],
                         ["number", "text", "tuple", "other", None])

    def test_stretches_and_counts(self):
        for pairs in trees():
            keeper = Keeper()
            root = laid(keeper, pairs)
            bounds = [None] + bounds_for(pairs)
            for low in bounds:
                for high in bounds:
                    told = stretch(keeper, root, low, high)
                    self.assertEqual(told, within(pairs, low, high), (low, high))
                    self.assertEqual(counted(keeper, root, low, high), len(told), (low, high))

    def test_a_stretch_has_its_low_and_not_its_high(self):
        keeper = Keeper()
        root = laid(keeper, {1: "a", 3: "b", 5: "c"})
        for low, high, keys in [(None, None, [1, 3, 5]), (1, 5, [1, 3]), (1, None, [1, 3, 5]), (None, 5, [1, 3]),
                                (2, 5, [3]), (2, 6, [3, 5]), (3, 4, [3]), (3, 3, []), (4, 3, []), (5, None, [5]),
                                (6, None, []), (None, 1, []), (None, 2, [1]), (0, 9, [1, 3, 5]), (5, "a", [5]),
                                ("a", None, []), ("a", 1, [])]:
            self.assertEqual([key for key, worth in stretch(keeper, root, low, high)], keys)
            self.assertEqual(counted(keeper, root, low, high), len(keys))

    def test_pairs_are_tuples_in_a_list(self):
        keeper = Keeper()
        root = laid(keeper, {1: ("x", (2,)), "a": 7})
        self.assertEqual(stretch(keeper, root, None, None), [(1, ("x", (2,))), ("a", 7)])
        self.assertEqual(nth(keeper, root, 1), ("a", 7))
        for told in stretch(keeper, root, None, None) + [nth(keeper, root, 1)]:
            self.assertIs(told.__class__, tuple)

    def test_pairs_of_numbers(self):
        for pairs in trees():
            keeper = Keeper()
            root = laid(keeper, pairs)
            for number, pair in enumerate(in_order(pairs)):
                self.assertEqual(nth(keeper, root, number), pair)
            for number in (-10 ** 20, -2, -1, len(pairs), len(pairs) + 1, 300, 10 ** 20):
                self.assertIsNone(nth(keeper, root, number))

    def test_the_empty_tree(self):
        vault = Vault()
        self.assertIsNone(found(vault, 0, 5))
        self.assertEqual(stretch(vault, 0, None, None), [])
        self.assertEqual(stretch(vault, 0, 1, 2), [])
        self.assertEqual(counted(vault, 0, None, None), 0)
        self.assertEqual(counted(vault, 0, 1, 2), 0)
        self.assertEqual(counted(vault, 0, 1, None), 0)
        self.assertIsNone(nth(vault, 0, 0))

    def test_nothing_is_read_of_a_low_that_is_not_ahead_of_high(self):
        for low, high in [(5, 5), (6, 5), ("a", 5), ((), "a"), ((1, 2), (1, 2)), ((1, 2), (1,)), ("", "")]:
            self.assertEqual(stretch(Vault(), 77, low, high), [])
            self.assertEqual(counted(Vault(), 77, low, high), 0)
            keeper = Keeper()
            reader = Reader(keeper)
            root = laid(keeper, {1: 1, 5: 5, "a": "a"})
            self.assertEqual(stretch(reader, root, low, high), [])
            self.assertEqual(counted(reader, root, low, high), 0)
            self.assertEqual(reader.paper(), [])

    def test_nothing_is_read_of_a_number_below_0(self):
        for number in (-1, -2, -10 ** 30):
            self.assertIsNone(nth(Vault(), 77, number))

    def test_a_root_that_is_not_there(self):
        vault = Vault()
        laid(vault, {1: 1})
        for root in (1, 77, 2 ** 61):
            for call, rest in [(found, (1,)), (stretch, (None, None)), (stretch, (1, 2)), (counted, (None, None)),
                               (counted, (1, None)), (counted, (None, 1)), (nth, (0,)), (nth, (5,)), (put, (1, 1)),
                               (cut, (1,)), (part, (1,))]:
                with self.assertRaises(NoPaper, msg=call):
                    call(vault, root, *rest)
            self.assertRaises(NoPaper, join, vault, root, seal((1, 1, 0, 0, 1)))
            self.assertRaises(NoPaper, join, vault, seal((1, 1, 0, 0, 1)), root)

    def test_asking_lays_nothing(self):
        for pairs in trees():
            keeper = Keeper()
            root = laid(keeper, pairs)
            before = keeper.things()
            for key in bounds_for(pairs):
                found(keeper, root, key)
                stretch(keeper, root, key, None)
                counted(keeper, root, None, key)
                nth(keeper, root, 3)
            self.assertEqual(keeper.things(), before)

    def test_lists_are_the_askers_own(self):
        keeper = Keeper()
        root = laid(keeper, {1: "a", 2: "b"})
        told = stretch(keeper, root, None, None)
        told.append("more")
        told[0] = "else"
        self.assertEqual(stretch(keeper, root, None, None), [(1, "a"), (2, "b")])
        again = stretch(keeper, root, None, None)
        put(keeper, root, 1, "other")
        self.assertEqual(again, [(1, "a"), (2, "b")])
        empty = stretch(keeper, root, 5, 4)
        empty.append(1)
        self.assertEqual(stretch(keeper, root, 5, 4), [])


class Changed(unittest.TestCase):
    """Points 13 and 14."""

    def is_tree(self, vault, root, pairs):
        """A root is that of the pairs, and all nodes of its tree are in the vault."""
        expected, nodes = reckoned(pairs)
        self.assertEqual(root, expected)
        for number, node in nodes.items():
            self.assertEqual(vault.thing(number), node)

    def test_one_node(self):
        keeper = Keeper()
        self.assertEqual(put(keeper, 0, 5, "w"), seal((5, "w", 0, 0, 1)))
        self.assertEqual(keeper.things(), [(5, "w", 0, 0, 1)])

    def test_two_nodes(self):
        self.assertGreater(seal(("rank", 6)), seal(("rank", 5)))
        for order in ([5, 6], [6, 5]):
            keeper = Keeper()
            root = put_all(keeper, {5: "v", 6: "w"}, order)
            self.assertEqual(root, seal((6, "w", seal((5, "v", 0, 0, 1)), 0, 2)))

    def test_each_put_and_each_cut(self):
        for pairs in trees():
            keeper = Keeper()
            root = 0
            stands = {}
            for key in random.Random(1).sample(list(pairs), len(pairs)):
                root = put(keeper, root, key, pairs[key])
                stands[key] = pairs[key]
                self.is_tree(keeper, root, stands)
            for key in random.Random(2).sample(list(pairs), len(pairs)):
                root = cut(keeper, root, key)
                del stands[key]
                self.is_tree(keeper, root, stands)
            self.assertEqual(root, 0)

    def test_one_root_by_whatever_order(self):
        for pairs in trees():
            expected = reckoned(pairs)[0]
            keys = list(pairs)
            for order in [keys, keys[::-1]] + [random.Random(seed).sample(keys, len(keys)) for seed in range(4)]:
                self.assertEqual(put_all(Keeper(), pairs, order), expected)

    def test_one_root_with_others_put_and_cut_again(self):
        for pairs in trees():
            keeper = Keeper()
            others = [key for key in bounds_for(pairs) if key not in pairs]
            root = put_all(keeper, {key: "else" for key in others}, others)
            root = put_all(keeper, pairs, list(pairs), root)
            for key in others[::-1]:
                root = cut(keeper, root, key)
            self.is_tree(keeper, root, pairs)
            for key in others:
                self.assertEqual(cut(keeper, put(keeper, root, key, 1), key), root)
            for place, key in enumerate(pairs):
                self.assertEqual(put(keeper, cut(keeper, root, key), key, pairs[key]), root)
                self.assertEqual(put(keeper, put(keeper, root, key, ("else", place)), key, pairs[key]), root)

    def test_another_worth(self):
        for pairs in trees():
            keeper = Keeper()
            root = laid(keeper, pairs)
            for place, key in enumerate(pairs):
                self.is_tree(keeper, put(keeper, root, key, ("new", place)), {**pairs, key: ("new", place)})

    def test_what_stands_and_what_does_not(self):
        for pairs in trees():
            keeper = Keeper()
            root = laid(keeper, pairs)
            before = keeper.things()
            for key in pairs:
                self.assertEqual(put(keeper, root, key, pairs[key]), root)
            for key in bounds_for(pairs):
                if key not in pairs:
                    self.assertEqual(cut(keeper, root, key), root)
            self.assertEqual(keeper.things(), before)

    def test_partings_and_joinings(self):
        for pairs in trees():
            keeper = Keeper()
            root = laid(keeper, pairs)
            for key in list(pairs) + bounds_for(pairs):
                told = part(keeper, root, key)
                self.assertIs(told.__class__, tuple)
                self.assertEqual(len(told), 2)
                self.is_tree(keeper, told[0], dict(within(pairs, None, key)))
                self.is_tree(keeper, told[1], dict(within(pairs, key, None)))
                self.assertEqual(join(keeper, told[0], told[1]), root)

    def test_a_key_that_stands_is_among_the_others(self):
        keeper = Keeper()
        root = laid(keeper, {1: "a", 3: "b", 5: "c"})
        left, right = part(keeper, root, 3)
        self.assertEqual(stretch(keeper, left, None, None), [(1, "a")])
        self.assertEqual(stretch(keeper, right, None, None), [(3, "b"), (5, "c")])

    def test_joining_lays_the_nodes_that_it_needs(self):
        for pairs in trees():
            for key in bounds_for(pairs):
                vault = Vault()
                left = laid(vault, dict(within(pairs, None, key)))
                right = laid(vault, dict(within(pairs, key, None)))
                self.is_tree(vault, join(vault, left, right), pairs)

    def test_empty_trees(self):
        vault = Vault()
        self.assertEqual(cut(vault, 0, 5), 0)
        self.assertEqual(part(vault, 0, 5), (0, 0))
        self.assertEqual(join(vault, 0, 0), 0)
        root = put(vault, 0, 5, "w")
        self.assertEqual(join(vault, root, 0), root)
        self.assertEqual(join(vault, 0, root), root)
        self.assertEqual(part(vault, root, 5), (0, root))
        self.assertEqual(part(vault, root, 6), (root, 0))
        self.assertEqual(cut(vault, root, 5), 0)

    def test_parted_joined_put_and_cut_at_random(self):
        chance = random.Random(5)
        keys = spread(12) + list(range(1, 12)) + alike_in_rank(10 ** 15, 3, 10 ** 15 + 2) + ["a", "b", (1,), ("x", 2)]
        keeper = Keeper()
        root = 0
        pairs = {}
        for turn in range(400):
            key = chance.choice(keys)
            deed = chance.choice(["put", "put", "cut", "part", "else"])
            if deed == "put":
                pairs[key] = (keys.index(key), chance.choice([1, "a", (2,)]))
                root = put(keeper, root, key, pairs[key])
            elif deed == "cut":
                pairs.pop(key, None)
                root = cut(keeper, root, key)
            elif deed == "part":
                left, right = part(keeper, root, key)
                pairs[key] = ("parted", keys.index(key))
                root = join(keeper, left, put(keeper, right, key, pairs[key]))
            else:
                left, right = part(keeper, root, key)
                root = join(keeper, left, cut(keeper, right, key))
                pairs.pop(key, None)
            self.assertEqual(root, reckoned(pairs)[0], (turn, deed))
        self.is_tree(keeper, root, pairs)

    def test_elder_roots_tell_their_own(self):
        for pairs in trees():
            keeper = Keeper()
            roots = []
            root = 0
            stands = {}
            for key in list(pairs):
                root = put(keeper, root, key, pairs[key])
                stands[key] = pairs[key]
                roots.append((root, dict(stands)))
            for key in list(pairs)[::2]:
                root = put(keeper, cut(keeper, root, key), -7, "else")
                part(keeper, root, key)
            for root, stands in roots:
                self.assertEqual(stretch(keeper, root, None, None), in_order(stands))

    def test_keys_of_one_rank(self):
        ahead_of, behind = alike_in_rank(5, 3), alike_in_rank(5, 3, 10 ** 15 + 1)
        keys = ahead_of + [5] + behind
        pairs = {key: number for number, key in enumerate(keys)}
        for seed in range(6):
            keeper = Keeper()
            root = put_all(keeper, pairs, random.Random(seed).sample(keys, len(keys)))
            self.is_tree(keeper, root, pairs)
            # The one that is ahead is above: so they hang all to the right.
            for count, key in enumerate(keys):
                node = keeper.thing(root)
                self.assertEqual((node[0], node[2], node[4]), (key, 0, len(keys) - count))
                root = node[3]
            self.assertEqual(root, 0)

    def test_keys_and_worths_up_to_three_deep(self):
        pairs = {key: key for key in things() if key is not None and deep(key) <= 3}
        self.assertIn(((),), pairs)
        self.assertIn((((),),), pairs)
        keeper = Keeper()
        root = put_all(keeper, pairs, random.Random(3).sample(list(pairs), len(pairs)))
        self.is_tree(keeper, root, pairs)
        self.assertEqual(stretch(keeper, root, None, None), in_order(pairs))

    def test_three_hundred_nodes(self):
        for keys in (list(range(300)), spread(300)):
            pairs = {key: ("row", key) for key in keys}
            keeper = Keeper()
            root = put_all(keeper, pairs, keys)
            self.assertEqual(counted(keeper, root, None, None), 300)
            self.assertEqual(stretch(keeper, root, None, None), in_order(pairs))
            self.assertEqual(nth(keeper, root, 0), (keys[0], ("row", keys[0])))
            self.assertEqual(nth(keeper, root, 299), (keys[299], ("row", keys[299])))
            self.assertEqual(counted(keeper, root, keys[100], keys[250]), 150)
            left, right = part(keeper, root, keys[150])
            self.assertEqual(counted(keeper, left, None, None), 150)
            self.assertEqual(join(keeper, left, right), root)
            self.assertEqual(put(keeper, cut(keeper, root, keys[0]), keys[0], ("row", keys[0])), root)

    def test_an_elder_root_in_another_vault(self):
        one, other = Keeper(), Keeper()
        self.assertEqual(put_all(one, {1: "a", 2: "b"}, [1, 2]), put_all(other, {1: "a", 2: "b"}, [2, 1]))

    def test_into_a_reader_the_keeper_gets_nothing(self):
        for pairs in trees():
            keeper = Keeper()
            root = laid(keeper, pairs)
            before = keeper.things()
            for key in bounds_for(pairs):
                reader = Reader(keeper)
                self.is_tree(reader, put(reader, root, key, "new"), {**pairs, key: "new"})
                self.is_tree(reader, cut(reader, root, key), {its: pairs[its] for its in pairs if its != key})
                self.is_tree(reader, part(reader, root, key)[0], dict(within(pairs, None, key)))
            self.assertEqual(keeper.things(), before)

    def test_a_clash_of_what_is_laid(self):
        node = (5, "w", 0, 0, 1)
        twin = twins_of(codes_of(node))[0]
        keeper = Keeper()
        keeper.lay(twin)
        for vault in (keeper, Reader(keeper)):
            with self.assertRaises(Clash) as taken:
                put(vault, 0, 5, "w")
            self.assertEqual((taken.exception.one, taken.exception.other), (twin, node))
        self.assertEqual(keeper.things(), [twin])
        root = put(keeper, 0, 6, "w")
        self.assertRaises(Clash, put, keeper, root, 5, "w")
        self.assertEqual(stretch(keeper, root, None, None), [(6, "w")])

    def test_a_clash_in_cutting_parting_and_joining(self):
        pairs = {5: "v", 6: "w"}
        twin = twins_of(codes_of((6, "w", 0, 0, 1)))[0]
        keeper = Keeper()
        root = laid(keeper, pairs)
        keeper.lay(twin)
        self.assertRaises(Clash, cut, keeper, root, 5)
        self.assertRaises(Clash, part, keeper, root, 6)
        twin = twins_of(codes_of(reckoned(pairs)[1][root]))[0]
        keeper = Keeper()
        left, right = laid(keeper, {5: "v"}), laid(keeper, {6: "w"})
        keeper.lay(twin)
        self.assertRaises(Clash, join, keeper, left, right)


if __name__ == "__main__":
    unittest.main()
