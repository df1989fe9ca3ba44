"""Points 20, 21 and 3: the clash of a paper and a keeper, and what is shown of an ask over a paper."""

import random
import unittest

from papervault.asks import Also, Ask, Count, Cut, Find, Nth, Put, Stretch
from papervault.clashes import clash_of, shown
from papervault.errors import Clash, NoState, NoTable
from papervault.papers import answer_with_paper, checked
from papervault.seals import seal
from papervault.vaults import Keeper
from tests.helper import (bounds_for, brief, codes_of, laid, no_things, number_between, reckoned, spread, things, trees,
                          twins_of)


def keeper_of(given):
    """A keeper into which things are laid."""
    keeper = Keeper()
    for thing in given:
        keeper.lay(thing)
    return keeper


def twins(thing, many=1):
    """Unlike whole numbers, each with the seal of a thing."""
    return twins_of(codes_of(thing), many)


def lie_for(node, key=None):
    """A node with the seal of a node, but with another worth, and perhaps another key."""
    own = node[0] if key is None else key
    behind = [code for thing in node[2:] for code in codes_of(thing)]
    worth = number_between([4, 5] + codes_of(own), behind, seal(node))
    if worth == node[1]:
        worth = number_between([4, 5] + codes_of(own), behind, seal(node), (worth + 10 ** 30) // 10 ** 15 + 1)
    lie = (own, worth) + node[2:]
    assert seal(lie) == seal(node) and lie != node
    return lie


class Clashes(unittest.TestCase):
    """Point 20."""

    def test_no_clash(self):
        for paper, kept in [([], []), (["a"], []), ([], ["a"]), (["a"], ["a"]), ([1, 2, (3,)], [(3,), 2, "x"]),
                            (things(), things()), (["a", "a"], ["a"])]:
            self.assertIsNone(clash_of(paper, keeper_of(kept)))

    def test_a_clash_within_the_paper_alone_is_none(self):
        for thing in things():
            self.assertIsNone(clash_of([thing] + twins(thing, 2), keeper_of(["other", ("other",)])))

    def test_one_clash(self):
        for thing in things():
            twin = twins(thing)[0]
            if twin == thing:
                continue
            self.assertEqual(clash_of([twin], keeper_of([thing])), (twin, thing))
            self.assertEqual(clash_of([thing], keeper_of([twin])), (thing, twin))
            told = clash_of(["more", twin, ("more",)], keeper_of([thing, "other", ("more",)]))
            self.assertEqual(told, (twin, thing))
            self.assertIs(told.__class__, tuple)

    def test_the_lowest_seal_of_several(self):
        kept = ["a", "b", ("c",), "abcdefgh", (1, 2, 3), None]
        pairs = [(twins(thing)[0], thing) for thing in kept]
        self.assertEqual(len(set(seal(thing) for thing in kept)), len(kept))
        chance = random.Random(20)
        for turn in range(60):
            some = chance.sample(pairs, chance.randrange(1, len(pairs) + 1))
            lowest = min(some, key=lambda pair: seal(pair[1]))
            self.assertEqual(clash_of([one for one, other in some], keeper_of(kept)), lowest)
            # Only what clashes is looked for: a lower seal without a clash is none.
            self.assertEqual(clash_of([other for one, other in pairs if (one, other) not in some]
                                      + [one for one, other in some], keeper_of(kept)), lowest)

    def test_the_first_in_the_paper_of_one_seal(self):
        for thing in ("a", ("b", 1), None, 5):
            one, two, three = [twin for twin in twins(thing, 4) if twin != thing][:3]
            keeper = keeper_of([thing])
            for paper in ([one, two, three], [two, one, three], [three, two], [two, three, one], [two, two, one]):
                self.assertEqual(clash_of(paper, keeper), (paper[0], thing))
                self.assertEqual(clash_of([thing] + paper, keeper), (paper[0], thing))
                self.assertEqual(clash_of(paper[:1] + [thing] + paper[1:], keeper), (paper[0], thing))

    def test_the_lowest_seal_goes_ahead_of_the_first_in_the_paper(self):
        low, high = sorted(["a", "b"], key=seal)
        paper = twins(high, 2) + twins(low, 2)
        self.assertEqual(clash_of(paper, keeper_of(["a", "b"])), (paper[2], low))
        self.assertEqual(clash_of(paper[::-1], keeper_of(["a", "b"])), (paper[3], low))

    def test_keeper_and_paper_stay(self):
        kept = ["a", "b", ("c",)]
        for paper in ([], ["a"], twins("b", 2) + ["d"], twins(("c",)) + twins("a")):
            keeper, before = keeper_of(kept), list(paper)
            first = clash_of(paper, keeper)
            self.assertEqual(paper, before)
            self.assertEqual(keeper.things(), sorted(kept, key=seal))
            self.assertEqual(clash_of(paper, keeper), first)

    def test_what_is_no_thing_clashes_with_nothing(self):
        for wrong in no_things():
            self.assertIsNone(clash_of([wrong], keeper_of(things()[:9])), brief(wrong))
            twin = twins("a")[0]
            self.assertEqual(clash_of([wrong, twin], keeper_of(["a"])), (twin, "a"), brief(wrong))

    def test_a_long_paper(self):
        kept = [("row", number) for number in range(3000)]
        keeper = keeper_of(kept)
        self.assertIsNone(clash_of(kept, keeper))
        twin = twins(kept[1234])[0]
        self.assertEqual(clash_of(kept[:-1] + [twin], keeper), (twin, kept[1234]))


class Refusing(Ask):
    """An ask that is refused with something that no vault refuses."""

    def __init__(self, error):
        self.error = error

    def answer(self, vault, root):
        raise self.error("refused")


class Told(Ask):
    """An ask that answers by a call over a vault and a root."""

    def __init__(self, call):
        self.call = call

    def answer(self, vault, root):
        return self.call(vault, root)


class Shown(unittest.TestCase):
    """The four texts of shown."""

    def setUp(self):
        self.pairs = {number: ("worth", number) for number in spread(12)}
        self.keeper = Keeper()
        self.root = laid(self.keeper, self.pairs)
        self.top = self.keeper.thing(self.root)

    def show(self, ask, paper, keeper=None):
        """What is shown, with a look at whether anything was changed."""
        keeper = self.keeper if keeper is None else keeper
        kept, copy = keeper.things(), list(paper)
        text = shown(self.root, ask, paper, keeper)
        self.assertEqual(keeper.things(), kept)
        self.assertEqual(paper, copy)
        return text

    def asks(self):
        return [Find(self.top[0]), Find(7), Find(spread(12)[3]), Stretch(None, None), Stretch(5, 10 ** 17),
                Count(None, None), Count(9, None), Nth(4), Put(7, "new"), Put(self.top[0], "new"), Cut(self.top[0]),
                Cut(spread(12)[5]), Also([Find(7), Put(7, "new"), Stretch(None, 10 ** 16)])]

    def test_right(self):
        for ask in self.asks() + [Ask(), Also([]), Nth(-1), Stretch(5, 5)]:
            paper = answer_with_paper(self.keeper, self.root, ask)[1]
            self.assertEqual(self.show(ask, paper), "right")
            self.assertEqual(self.show(ask, self.keeper.things()), "right")
            self.assertEqual(self.show(ask, paper[::-1] + ["more", ("more",)] + paper), "right")

    def test_right_over_keepers_that_lack_what_is_not_read(self):
        for ask in self.asks():
            paper = answer_with_paper(self.keeper, self.root, ask)[1]
            self.assertEqual(self.show(ask, paper, keeper_of(paper)), "right")
        for ask in (Ask(), Also([]), Nth(-1), Stretch(5, 5)):
            self.assertEqual(self.show(ask, [], Keeper()), "right")

    def test_right_goes_ahead_of_a_clash(self):
        keeper = keeper_of(self.keeper.things() + ["other"])
        for ask in self.asks():
            paper = answer_with_paper(self.keeper, self.root, ask)[1] + twins("other")
            self.assertIsNotNone(clash_of(paper, keeper))
            self.assertEqual(self.show(ask, paper, keeper), "right")

    def test_refused_where_a_thing_lacks(self):
        for ask in self.asks():
            paper = answer_with_paper(self.keeper, self.root, ask)[1]
            for place in range(len(paper)):
                self.assertEqual(self.show(ask, paper[:place] + paper[place + 1:]), "refused")
            self.assertEqual(self.show(ask, []), "refused")

    def test_refused_where_the_paper_clashes_within(self):
        for ask in self.asks() + [Ask()]:
            paper = answer_with_paper(self.keeper, self.root, ask)[1]
            for more in (["a"] + twins("a"), [lie_for(self.top), self.top], twins("b", 2)):
                self.assertEqual(self.show(ask, paper + more), "refused")

    def test_refused_where_the_paper_has_what_is_no_thing(self):
        for ask in (Find(self.top[0]), Ask()):
            paper = answer_with_paper(self.keeper, self.root, ask)[1]
            for wrong in no_things():
                self.assertEqual(self.show(ask, paper + [wrong]), "refused", brief(wrong))
                self.assertEqual(self.show(ask, [wrong] + paper), "refused", brief(wrong))

    def test_refused_where_a_node_is_none(self):
        paper = [(5, "w", 0, 0, 7)]
        self.assertEqual(shown(seal(paper[0]), Stretch(None, None), paper, keeper_of(paper)), "refused")
        self.assertEqual(shown(seal("a"), Find(5), ["a"], keeper_of(["a"])), "refused")

    def test_refused_with_whatever_refusal(self):
        for error in (NoState, NoTable):
            self.assertEqual(self.show(Refusing(error), []), "refused")

    def test_refused_goes_ahead_of_a_clash(self):
        ask = Find(self.top[0])
        self.assertIsNotNone(clash_of(twins(self.top), self.keeper))
        self.assertEqual(self.show(ask, twins(self.top)), "refused")
        self.assertEqual(self.show(ask, twins("a", 2) + [lie_for(self.top)]), "refused")
        # Also where the keeper's own answering is refused with Clash.
        keeper = keeper_of(self.keeper.things() + twins((7, "new", 0, 0, 1)))
        self.assertRaises(Clash, answer_with_paper, keeper, 0, Put(7, "new"))
        self.assertEqual(shown(0, Put(7, "new"), [True], keeper), "refused")
        self.assertEqual(shown(0, Put(7, "new"), [], keeper), "clash")

    def test_clash_where_a_lie_is_let_by(self):
        lie = lie_for(self.top)
        for ask in (Find(self.top[0]), Stretch(None, None), Stretch(self.top[0], None), Also([Find(self.top[0])])):
            paper = answer_with_paper(self.keeper, self.root, ask)[1]
            forged = [lie if thing == self.top else thing for thing in paper]
            self.assertNotEqual(checked(self.root, ask, forged), checked(self.root, ask, paper))
            self.assertEqual(self.show(ask, forged), "clash")
        other = lie_for(self.top, -3)
        self.assertEqual(self.show(Find(-3), [other]), "clash")

    def test_clash_where_the_keepers_answering_is_refused_with_one(self):
        for ask in (Put(7, "new"), Put(10 ** 29, "new"), Cut(self.top[0])):
            answer, paper = answer_with_paper(self.keeper, self.root, ask)
            # The new root's node is what the ask lays; the keeper has another thing of that seal.
            keeper = keeper_of(self.keeper.things() + twins_of_seal(answer))
            self.assertRaises(Clash, answer_with_paper, keeper, self.root, ask)
            self.assertIsNone(clash_of(paper, keeper))
            self.assertEqual(checked(self.root, ask, paper), answer)
            self.assertEqual(self.show(ask, paper, keeper), "clash")

    def test_clash_over_keepers_that_lack_something(self):
        ask = Find(self.top[0])
        keeper = keeper_of(["a"])
        self.assertEqual(self.show(ask, [self.top] + twins("a"), keeper), "clash")
        # A keeper that has no node there: then the paper's node clashes.
        self.assertEqual(self.show(ask, [self.top], keeper_of(twins(self.top))), "clash")

    def test_wrong_where_the_keeper_lacks_something(self):
        for ask in self.asks():
            paper = answer_with_paper(self.keeper, self.root, ask)[1]
            for place in range(len(paper)):
                keeper = keeper_of(paper[:place] + paper[place + 1:] + ["other"])
                self.assertEqual(self.show(ask, paper, keeper), "wrong")
            self.assertEqual(self.show(ask, paper, Keeper()), "wrong")

    def test_wrong_where_an_ask_hangs_on_something_else(self):
        told = []

        def number(vault, root):
            told.append(root)
            return len(told)

        self.assertEqual(self.show(Told(number), ["a"], keeper_of(["a"])), "wrong")
        self.assertEqual(self.show(Told(number), twins("a"), keeper_of(["a"])), "clash")


def twins_of_seal(number):
    """A list of one whole number with that seal."""
    return [number_between([], [], number)]


class Promise(unittest.TestCase):
    """Points 3 and 21: never `wrong` where the keeper has all that the root leads to."""

    def asks_for(self, pairs):
        keys = bounds_for(pairs)
        found = [Stretch(None, None), Count(None, None), Nth(0), Nth(len(pairs) // 2), Nth(len(pairs) - 1), Ask()]
        for place, key in enumerate(keys[::2]):
            other = keys[(place * 5 + 2) % len(keys)]
            found += [Find(key), Put(key, ("new", place)), Cut(key), Stretch(key, None), Count(None, key),
                      Stretch(key, other), Count(key, other), Also([Find(key), Put(key, 1), Cut(other)])]
        return found

    def spoilt(self, chance, paper, nodes):
        """Papers that a liar could make of a keeper's paper."""
        lies = [lie_for(node) for node in chance.sample(nodes, min(2, len(nodes)))]
        found = [paper[::-1], [thing for thing in paper if chance.randrange(6)], paper + lies, lies,
                 paper + [[]], paper + ["a", 5, ("more",)]]
        for lie in lies:
            found.append([lie if seal(thing) == seal(lie) else thing for thing in paper])
        if paper:
            node = chance.choice(paper)
            found.append([thing for thing in paper if thing != node] + twins(node))
            place = chance.randrange(5)
            other = [9, "lie", 0, 0, chance.randrange(1, 301)]
            found.append([node[:place] + (other[place],) + node[place + 1:] if thing == node else thing
                          for thing in paper])
            key = chance.choice([-3, "x", 10 ** 16])
            found.append([thing for thing in paper if thing != node] + [lie_for(node, key)])
        return found

    def test_papers_of_each_ask_spoilt(self):
        chance = random.Random(21)
        seen = {"refused": 0, "right": 0, "clash": 0, "wrong": 0}
        for pairs in trees():
            keeper = Keeper()
            root = laid(keeper, pairs)
            nodes = list(reckoned(pairs)[1].values())
            laid(keeper, {key: "other" for key in range(900, 903)})
            kept = keeper.things()
            for ask in self.asks_for(pairs):
                paper = answer_with_paper(keeper, root, ask)[1]
                for other in self.spoilt(chance, paper, nodes):
                    text = shown(root, ask, other, keeper)
                    seen[text] += 1
                    self.assertNotEqual(text, "wrong")
            self.assertEqual(keeper.things(), kept)
        self.assertGreater(min(seen["refused"], seen["right"], seen["clash"]), 100)


if __name__ == "__main__":
    unittest.main()
