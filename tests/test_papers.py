"""Points 17 to 19: a keeper's paper for an ask, checking it, and what in a paper changes nothing; and point 3."""

import random
import unittest

from papervault.asks import Also, Ask, Count, Cut, Find, Nth, Put, Stretch
from papervault.errors import BadThing, Clash, NoPaper
from papervault.nodes import above
from papervault.papers import answer_with_paper, checked
from papervault.seals import seal
from papervault.trees import join, part
from papervault.vaults import Keeper, Reader, Vault, Witness
from tests.helper import (bad_nodes, bounds_for, brief, codes_of, laid, no_things, number_between, reckoned, spread,
                          things, trees, twins_of)


def asks_for(pairs):
    """Asks of each kind, for a tree of these pairs."""
    keys = bounds_for(pairs)
    found = [Ask(), Also([]), Stretch(None, None), Count(None, None), Nth(-1), Stretch(9, 9), Count(9, 9)]
    found += [Nth(number) for number in (0, 1, len(pairs) // 2, len(pairs) - 1, len(pairs), 300)]
    for place, key in enumerate(keys):
        found += [Find(key), Put(key, ("new", place)), Cut(key), Stretch(key, None), Count(None, key)]
        other = keys[(place * 7 + 3) % len(keys)]
        found += [Stretch(key, other), Count(key, other), Count(key, None), Stretch(None, key)]
        if key in pairs:
            found.append(Put(key, pairs[key]))
    found.append(Also(found[:9]))
    found.append(Also([Put(keys[0], ("new", 0)), Find(keys[0]), Cut(keys[0]), Also([Stretch(None, None)])]))
    return found


def keepers():
    """Tuples of pairs, a keeper who has their tree and others, and its root."""
    found = []
    for pairs in trees():
        keeper = Keeper()
        laid(keeper, {key: "other" for key in range(900, 903)})
        found.append((pairs, keeper, laid(keeper, pairs)))
    return found


class Papers(unittest.TestCase):
    """Point 17."""

    def test_the_answer_and_the_paper_of_a_reader(self):
        for pairs, keeper, root in keepers():
            for ask in asks_for(pairs):
                told = answer_with_paper(keeper, root, ask)
                self.assertIs(told.__class__, tuple)
                reader = Reader(keeper)
                self.assertEqual(told, (ask.answer(reader, root), reader.paper()))

    def test_a_paper(self):
        keeper = Keeper()
        low, top = (5, "v", 0, 0, 1), (6, "w", seal((5, "v", 0, 0, 1)), 0, 2)
        root = laid(keeper, {5: "v", 6: "w"})
        for ask, answer, paper in [(Find(6), "w", [top]), (Find(7), None, [top]), (Find(5), "v", [low, top]),
                                   (Stretch(None, None), [(5, "v"), (6, "w")], [low, top]),
                                   (Stretch(6, None), [(6, "w")], [top]), (Stretch(6, 5), [], []), (Nth(-1), None, []),
                                   (Put(5, "x"), seal((6, "w", seal((5, "x", 0, 0, 1)), 0, 2)), [low, top]),
                                   (Put(7, "x"), seal((7, "x", root, 0, 3)), [top]), (Cut(6), seal(low), [top]),
                                   (Ask(), None, []), (Also([]), [], []),
                                   (Also([Find(5), Find(5)]), ["v", "v"], [low, top])]:
            self.assertEqual(answer_with_paper(keeper, root, ask), (answer, sorted(paper, key=seal)))

    def test_a_paper_rises_by_seals_each_once(self):
        for pairs, keeper, root in keepers():
            for ask in asks_for(pairs):
                paper = answer_with_paper(keeper, root, ask)[1]
                seals = [seal(thing) for thing in paper]
                self.assertEqual(seals, sorted(set(seals)))

    def test_the_keeper_is_not_changed(self):
        for pairs, keeper, root in keepers():
            before = keeper.things()
            for ask in asks_for(pairs):
                answer_with_paper(keeper, root, ask)
            self.assertEqual(keeper.things(), before)

    def test_lists_are_the_askers_own(self):
        pairs, keeper, root = keepers()[4]
        ask = Stretch(None, None)
        answer, paper = answer_with_paper(keeper, root, ask)
        self.assertEqual((len(answer), len(paper)), (len(pairs), len(pairs)))
        answer.clear()
        paper.clear()
        again = answer_with_paper(keeper, root, ask)
        self.assertEqual((len(again[0]), len(again[1])), (len(pairs), len(pairs)))
        answer, paper = answer_with_paper(keeper, root, Also([]))
        self.assertIsNot(answer, paper)

    def test_what_the_keeper_is_refused(self):
        keeper = Keeper()
        self.assertRaises(NoPaper, answer_with_paper, keeper, 77, Find(1))
        self.assertRaises(BadThing, answer_with_paper, keeper, keeper.lay("no node"), Find(1))
        keeper.lay(twins_of(codes_of((5, "w", 0, 0, 1)))[0])
        self.assertRaises(Clash, answer_with_paper, keeper, 0, Put(5, "w"))


class Checked(unittest.TestCase):
    """Points 18 and 19, of honest papers and such with things more or less."""

    def test_the_same_answer(self):
        for pairs, keeper, root in keepers():
            for ask in asks_for(pairs):
                answer, paper = answer_with_paper(keeper, root, ask)
                self.assertEqual(checked(root, ask, paper), answer)

    def test_each_thing_left_out(self):
        for pairs, keeper, root in keepers():
            for ask in asks_for(pairs):
                paper = answer_with_paper(keeper, root, ask)[1]
                for place in range(len(paper)):
                    self.assertRaises(NoPaper, checked, root, ask, paper[:place] + paper[place + 1:])

    def test_another_paper(self):
        keeper = Keeper()
        root, other = laid(keeper, {5: "v"}), laid(keeper, {5: "w"})
        self.assertRaises(NoPaper, checked, root, Find(5), answer_with_paper(keeper, other, Find(5))[1])
        self.assertRaises(NoPaper, checked, root, Find(5), [])

    def test_things_more_that_nobody_reads(self):
        more = things() + [(7, "w", 0, 0, 1), (7, "w", 77, 77, 5), ("no", "node", -1), (8, None, 0, 0, 1)]
        for pairs, keeper, root in keepers():
            for ask in asks_for(pairs):
                answer, paper = answer_with_paper(keeper, root, ask)
                for other in (more + paper, paper + more, more + paper[::-1] + paper + more, paper + keeper.things()):
                    self.assertEqual(checked(root, ask, other), answer)

    def test_a_long_paper(self):
        pairs, keeper, root = keepers()[5]
        answer, paper = answer_with_paper(keeper, root, Stretch(None, None))
        paper += [("more", number) for number in range(3000 - len(paper))]
        self.assertEqual(checked(root, Stretch(None, None), paper), answer)

    def test_the_paper_is_not_changed(self):
        pairs, keeper, root = keepers()[5]
        for ask in (Put(7, "new"), Cut(4 * 10 ** 15), Stretch(None, None)):
            paper = answer_with_paper(keeper, root, ask)[1]
            before = list(paper)
            answer = checked(root, ask, paper)
            self.assertEqual(paper, before)
            self.assertEqual(checked(root, ask, paper), answer)

    def test_a_clash_in_the_paper(self):
        for pairs, keeper, root in keepers()[1:6]:
            for ask in (Find(5), Stretch(None, None), Put(3, "w"), Ask()):
                paper = answer_with_paper(keeper, root, ask)[1]
                for thing in paper + ["a", None]:
                    twin = twins_of(codes_of(thing))[0]
                    for one, other in [(thing, twin), (twin, thing)]:
                        with self.assertRaises(Clash) as taken:
                            checked(root, ask, [one] + paper + [other])
                        self.assertEqual((taken.exception.one, taken.exception.other), (one, other))

    def test_a_clash_with_what_is_laid(self):
        keeper = Keeper()
        root = laid(keeper, {5: "v", 6: "w"})
        for ask, node in [(Put(7, "x"), (7, "x", root, 0, 3)), (Cut(5), (6, "w", 0, 0, 1)),
                          (Put(5, "x"), (5, "x", 0, 0, 1))]:
            answer, paper = answer_with_paper(keeper, root, ask)
            twin = twins_of(codes_of(node))[0]
            with self.assertRaises(Clash) as taken:
                checked(root, ask, paper + [twin])
            self.assertEqual((taken.exception.one, taken.exception.other), (twin, node))
            self.assertEqual(checked(root, Find(5), paper + [twin] + keeper.things()), "v")

    def test_no_things_in_the_paper(self):
        pairs, keeper, root = keepers()[3]
        paper = answer_with_paper(keeper, root, Find(5))[1]
        for value in no_things():
            for wrong in ([value] + paper, paper + [value]):
                with self.assertRaises(BadThing, msg=brief(value)):
                    checked(root, Find(5), wrong)


class NoNodes(unittest.TestCase):
    """Point 18, of papers with what is none of a node, at roots that lead there."""

    def refused(self, paper, root, asks):
        for ask in asks:
            with self.assertRaises(BadThing, msg=(ask.__class__, vars(ask), paper)):
                checked(root, ask, paper)

    def let_by(self, paper, root, asks):
        return [checked(root, ask, paper) for ask in asks]

    def test_at_the_root(self):
        for thing in bad_nodes():
            self.refused([thing], seal(thing), [
                Find(5), Find(6), Stretch(None, None), Stretch(5, 6), Count(None, None), Count(5, None), Count(None, 5),
                Count(4, 6), Nth(0), Nth(7), Put(5, "w"), Put(6, "w"), Cut(5), Cut(6), Also([Ask(), Find(5)])])

    def test_beneath_another_one(self):
        for thing in bad_nodes():
            for count in (2, 300):
                left = (10, "w", seal(thing), 0, count)
                self.refused([left, thing], seal(left), [
                    Find(5), Find(1), Stretch(None, None), Stretch(None, 10), Stretch(1, 6), Count(5, None),
                    Count(None, 5), Count(1, 6), Nth(0), Put(5, "w"), Put(1, "w"), Cut(5), Cut(1)])
                right = (10, "w", 0, seal(thing), count)
                self.refused([right, thing], seal(right), [
                    Find(15), Find(10 ** 20), Stretch(None, None), Stretch(10, None), Stretch(11, 16), Count(15, None),
                    Count(None, 15), Count(11, 16), Nth(1), Put(15, "w"), Put(10 ** 20, "w"), Cut(15), Cut(10 ** 20)])

    def test_the_trees_of_a_node_that_is_cut(self):
        good = [(5, "l", 0, 0, 1), (15, "r", 0, 0, 1)]
        for thing in bad_nodes():
            for left, right in [(thing, good[1]), (good[0], thing)]:
                top = (10, "w", seal(left), seal(right), 300)
                self.refused([top, left, right], seal(top), [Cut(10)])

    def test_a_count_not_below_that_of_the_node_above(self):
        for count in (1, 2, 7, 300):
            for its in (count, min(count + 1, 300), 300):
                child = (5, "c", 0, 0, its)
                left = (10, "w", seal(child), 0, count)
                self.refused([left, child], seal(left), [
                    Find(5), Find(1), Stretch(None, None), Stretch(None, 10), Count(None, 5), Count(5, None),
                    Nth(0), Put(5, "w"), Put(1, "w"), Cut(5), Cut(1)])
                child = (15, "c", 0, 0, its)
                right = (10, "w", 0, seal(child), count)
                self.refused([right, child], seal(right), [
                    Find(15), Find(20), Stretch(None, None), Stretch(10, None), Count(None, 15), Count(15, None),
                    Put(15, "w"), Put(20, "w"), Cut(15), Cut(20)])

    def test_a_count_not_below_where_a_tree_is_read_for_its_count_alone(self):
        for count in (1, 2, 300):
            child = (5, "c", 0, 0, count)
            top = (10, "w", seal(child), 0, count)
            self.refused([top, child], seal(top), [Count(None, 15), Count(10, None), Count(15, None), Nth(count - 1)])
            self.assertRaises(BadThing, part, Witness([top, child]), seal(top), 10)

    def test_a_count_just_below_that_of_the_node_above(self):
        for count in (2, 7, 300):
            child = (5, "c", 0, 0, count - 1)
            left = (10, "w", seal(child), 0, count)
            answers = self.let_by([left, child], seal(left), [
                Find(5), Find(1), Stretch(None, 5), Stretch(5, 10), Nth(count - 1), Count(None, None)])
            self.assertEqual(answers, ["c", None, [], [(5, "c")], (10, "w"), count])
            self.let_by([left, child], seal(left), [Count(None, 5), Put(5, "w"), Put(1, "w"), Cut(5), Cut(1)])

    def test_further_down(self):
        low = (1, "a", 0, 0, 5)
        for count, lets in [(5, False), (4, False), (6, True), (7, True)]:
            middle = (5, "b", seal(low), 0, count)
            top = (10, "c", seal(middle), 0, 8)
            asks = [Find(1), Put(1, "x"), Cut(1), Count(None, 1), Stretch(None, 1), Stretch(1, 5)]
            if lets:
                self.let_by([top, middle, low], seal(top), asks)
            else:
                self.refused([top, middle, low], seal(top), asks)

    def test_the_trees_of_a_cut_node_are_beneath_it(self):
        for count in (3, 4, 300):
            for one, other in [(count, 1), (1, count), (count, count), (300, 1)]:
                left, right = (5, "l", 0, 0, one), (15, "r", 0, 0, other)
                top = (10, "w", seal(left), seal(right), count)
                self.refused([top, left, right], seal(top), [Cut(10)])
            for one, other in [(count - 1, 1), (1, count - 1), (count - 1, count - 1)]:
                left, right = (5, "l", 0, 0, one), (15, "r", 0, 0, other)
                top = (10, "w", seal(left), seal(right), count)
                self.let_by([top, left, right], seal(top), [Cut(10)])

    def test_those_of_a_joining_are_beneath_none(self):
        for counts in [(1, 1), (300, 1), (1, 300), (300, 300)]:
            vault = Vault()
            left, right = vault.lay((5, "l", 0, 0, counts[0])), vault.lay((15, "r", 0, 0, counts[1]))
            self.assertEqual(vault.thing(join(vault, left, right)), (15, "r", left, 0, sum(counts)))
        for thing in bad_nodes():
            vault = Vault()
            bad, good = vault.lay(thing), vault.lay((5, "g", 0, 0, 1))
            self.assertRaises(BadThing, join, vault, bad, good)
            self.assertRaises(BadThing, join, vault, good, bad)

    def test_the_inner_edges_of_a_joining_are_beneath_one_another(self):
        # In each case the upper one of the two roots leads on to a node with a count as great as its own.
        keys = spread(40)
        one = [key for key in keys if not above(keys[-1], key)][0]
        self.assertTrue(above(one, keys[-1]))
        low = (one + 1, "low", 0, 0, 4)
        left, right = (one, "l", 0, seal(low), 4), (keys[-1], "r", 0, 0, 1)
        vault = Vault()
        for node in (low, left, right):
            vault.lay(node)
        self.assertRaises(BadThing, join, vault, seal(left), seal(right))
        self.assertTrue(above(15, 5))
        low = (14, "low", 0, 0, 4)
        left, right = (5, "l", 0, 0, 1), (15, "r", seal(low), 0, 4)
        for node in (low, left, right):
            vault.lay(node)
        self.assertRaises(BadThing, join, vault, seal(left), seal(right))


class Sums(unittest.TestCase):
    """Point 18, of the counts of both trees of a node and one."""

    BOTH = [(None, None), (None, 11), (9, None), (9, 11), (1, 100), (9, "a")]
    ONE = [(10, None), (None, 10), (10, 11), (11, None), (None, 9), (5, 10), (5, 6), (15, 16), (12, 20)]

    def trees_with(self, wrong):
        """Tuples (paper, root): a node with a wrong count, over two trees, one, none."""
        low, high = (5, "l", 0, 0, 1), (15, "r", 0, 0, 1)
        found = []
        for left, right in [(low, high), (low, None), (None, high), (None, None)]:
            right_sum = 1 + len([child for child in (left, right) if child is not None])
            counts = [count for count in (2, 3, 4, 299, 300) if count != right_sum] if wrong else [right_sum]
            for count in counts:
                top = (10, "t", 0 if left is None else seal(left), 0 if right is None else seal(right), count)
                found.append(([top, low, high], seal(top)))
        return found

    def test_a_stretch_to_both_sides(self):
        for paper, root in self.trees_with(True):
            for low, high in self.BOTH:
                self.assertRaises(BadThing, checked, root, Stretch(low, high), paper)
        for paper, root in self.trees_with(False):
            for low, high in self.BOTH:
                self.assertIn((10, "t"), checked(root, Stretch(low, high), paper))

    def test_a_stretch_to_one_side_looks_at_no_sum(self):
        for wrong in (True, False):
            for paper, root in self.trees_with(wrong):
                for low, high in self.ONE:
                    keys = [key for key, worth in checked(root, Stretch(low, high), paper)]
                    children = [5] * (paper[0][2] != 0) + [10] + [15] * (paper[0][3] != 0)
                    self.assertEqual(keys, [key for key in children
                                            if (low is None or low <= key) and (high is None or key < high)])

    def test_further_down(self):
        low, high = (5, "l", 0, 0, 1), (15, "r", 0, 0, 1)
        for count in (3, 4):
            middle = (10, "t", seal(low), seal(high), count)
            top = (20, "u", seal(middle), 0, count + 1)
            paper = [low, high, middle, top]
            for ask in (Stretch(None, None), Stretch(9, 11), Stretch(None, 20), Stretch(9, 20)):
                if count == 3:
                    checked(seal(top), ask, paper)
                else:
                    self.assertRaises(BadThing, checked, seal(top), ask, paper)
            self.assertEqual(checked(seal(top), Stretch(20, None), [top]), [(20, "u")])

    def test_both_trees_are_read_for_a_sum(self):
        low, high = (5, "l", 0, 0, 1), (15, "r", 0, 0, 1)
        top = (10, "t", seal(low), seal(high), 3)
        for paper in ([top, low], [top, high], [top]):
            self.assertRaises(NoPaper, checked, seal(top), Stretch(9, 11), paper)
        self.assertEqual(checked(seal(top), Stretch(9, 11), [top, low, high]), [(10, "t")])

    def test_counting_looks_at_no_sum(self):
        for paper, root in self.trees_with(True):
            self.assertEqual(checked(root, Count(None, None), paper), paper[0][4])
            for low, high in self.BOTH + self.ONE:
                self.assertIs(checked(root, Count(low, high), paper).__class__, int)

    def test_nothing_else_looks_at_a_sum(self):
        for paper, root in self.trees_with(True):
            self.assertEqual(checked(root, Find(10), paper), "t")
            for key in (1, 5, 7, 10, 12, 15, 20):
                for ask in (Find(key), Put(key, "w"), Cut(key), Nth(0), Nth(1), Nth(2), Nth(299)):
                    checked(root, ask, paper)


class Ends(unittest.TestCase):
    """Point 18: every ask comes to its end over every paper."""

    ASKS = [Find(1), Find(100), Stretch(None, None), Stretch(None, 1), Stretch(100, None), Stretch(1, 100),
            Count(None, 1), Count(100, None), Count(1, 100), Nth(0), Nth(1), Nth(2), Nth(299), Put(1, "w"),
            Put(100, "w"), Cut(1), Cut(100), Cut(10), Cut(20)]

    def ring(self, keys, counts, sides):
        """Nodes that lead round: each one's tree on its side is the next one, the last one's the first."""
        first = 12345
        nodes = []
        root = first
        for key, count, side in list(zip(keys, counts, sides))[:0:-1]:
            node = (key, "w", root, 0, count) if side == 2 else (key, "w", 0, root, count)
            nodes.append(node)
            root = seal(node)
        trees_of = [root, 0] if sides[0] == 2 else [0, root]
        before = [4, 5] + codes_of(keys[0])
        behind = [code for thing in trees_of + [counts[0]] for code in codes_of(thing)]
        node = (keys[0], number_between(before, behind, first), *trees_of, counts[0])
        self.assertEqual(seal(node), first)
        return nodes + [node], first

    def test_rings(self):
        for keys in ([10], [10, 20], [20, 10], [10, 20, 15, 12]):
            for counts in ([300] * 4, [1] * 4, [9, 8, 7, 6], [6, 7, 8, 9], [300, 299, 298, 1]):
                for sides in ([2, 2, 2, 2], [3, 3, 3, 3], [2, 3, 2, 3], [3, 2, 2, 3]):
                    many = len(keys)
                    paper, root = self.ring(keys, counts[:many], sides[:many])
                    self.goes_through(paper, root)

    def goes_through(self, paper, root):
        """Each ask is answered or refused, and those that go round are refused."""
        for ask in self.ASKS:
            try:
                checked(root, ask, paper)
            except BadThing:
                pass
        self.assertRaises(BadThing, checked, root, Stretch(None, None), paper)

    def test_a_ring_is_refused(self):
        paper, root = self.ring([10], [300], [2])
        for ask in (Find(1), Stretch(None, None), Stretch(None, 5), Count(None, 1), Count(1, None), Nth(0), Put(1, "w"),
                    Cut(1)):
            self.assertRaises(BadThing, checked, root, ask, paper)
        paper, root = self.ring([10, 20], [300, 299], [3, 3])
        for ask in (Find(100), Stretch(None, None), Stretch(50, None), Count(None, 100), Count(100, None), Nth(250),
                    Put(100, "w"), Cut(100)):
            self.assertRaises(BadThing, checked, root, ask, paper)

    def test_both_sides_to_one_tree(self):
        paper = [(0, "w", 0, 0, 1)]
        for count in range(2, 301):
            paper.append((count, "w", seal(paper[-1]), seal(paper[-1]), count))
        root = seal(paper[-1])
        self.assertRaises(BadThing, checked, root, Stretch(None, None), paper)
        self.assertRaises(BadThing, checked, root, Stretch(-1, 1000), paper)
        self.assertEqual(checked(root, Count(None, None), paper), 300)
        for ask in self.ASKS:
            try:
                checked(root, ask, paper)
            except BadThing:
                pass

    def test_ways_of_three_hundred(self):
        for side in (2, 3):
            paper = []
            root = 0
            for count in range(1, 301):
                key = 1000 + count if side == 2 else 1000 - count
                paper.append((key, "w", root, 0, count) if side == 2 else (key, "w", 0, root, count))
                root = seal(paper[-1])
            low, high = paper[0][0], paper[-1][0]
            for ask in (Find(low), Put(low, "x"), Put(0, "x"), Put(5000, "x"), Cut(low), Cut(high), Count(low, None),
                        Count(None, high), Nth(0), Nth(150), Nth(299), Find(0), Find(5000)):
                checked(root, ask, paper)
            self.assertEqual(len(checked(root, Stretch(None, None), paper)), 300)
            self.assertEqual(checked(root, Find(low), paper), "w")


class Promise(unittest.TestCase):
    """Point 3: over whatever paper refused, or the keeper's answer, as no paper here clashes with the keeper."""

    def forged(self, chance, keeper):
        """A node that a liar could make of a keeper's: with another part."""
        node = chance.choice([thing for thing in keeper.things() if isinstance(thing, tuple)])
        place = chance.randrange(5)
        other = [chance.choice([1, 5, "x", 10 ** 15]), "lie", chance.choice([0, seal(node)]), 0, chance.randrange(1, 9)]
        return node[:place] + (other[place],) + node[place + 1:]

    def test_whatever_paper(self):
        chance = random.Random(11)
        seen = {"refused": 0, "right": 0}
        for pairs, keeper, root in keepers():
            for ask in asks_for(pairs):
                answer, paper = answer_with_paper(keeper, root, ask)
                for turn in range(3):
                    other = [thing for thing in paper if chance.randrange(12)]
                    other += [self.forged(chance, keeper) for number in range(chance.randrange(4))]
                    other += chance.sample(keeper.things(), chance.randrange(3))
                    chance.shuffle(other)
                    try:
                        self.assertEqual(checked(root, ask, other), answer)
                        seen["right"] += 1
                    except (NoPaper, BadThing, Clash):
                        seen["refused"] += 1
        self.assertGreater(min(seen.values()), 100)

    def test_a_lie_needs_a_clash(self):
        keeper = Keeper()
        root = laid(keeper, {5: "v"})
        lie = (5, number_between([4, 5] + codes_of(5), codes_of(0) + codes_of(0) + codes_of(1), root), 0, 0, 1)
        self.assertEqual(seal(lie), root)
        self.assertEqual(checked(root, Find(5), [lie]), lie[1])
        self.assertRaises(Clash, checked, root, Find(5), [lie] + keeper.things())


if __name__ == "__main__":
    unittest.main()
