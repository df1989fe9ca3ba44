"""Point 16, asks."""

import unittest

from papervault.asks import Also, Ask, Count, Cut, Find, Nth, Put, Stretch
from papervault.errors import NoPaper
from papervault.vaults import Keeper, Reader, Vault
from tests.helper import bounds_for, in_order, laid, no_things, reckoned, things, trees


class Touchy:
    """A value that can't be looked at: not compared, called true, walked, written or hashed."""

    def refuse(self, *rest):
        raise AssertionError("it was looked at")

    __eq__ = __ne__ = __lt__ = __le__ = __gt__ = __ge__ = __hash__ = __bool__ = refuse
    __len__ = __iter__ = __contains__ = __getitem__ = __repr__ = __str__ = __int__ = __index__ = refuse


class Noting(Ask):
    """An ask that notes over what it was answered."""

    def __init__(self, notes):
        self.notes = notes

    def answer(self, vault, root):
        self.notes.append((vault, root))
        return len(self.notes)


class Asks(unittest.TestCase):

    def test_a_plain_ask_answers_none(self):
        for root in (0, 77):
            for vault in (Vault(), Keeper(), Reader(Keeper())):
                self.assertIsNone(Ask().answer(vault, root))

    def test_each_is_an_ask(self):
        for ask in (Find(1), Stretch(1, 2), Count(1, 2), Nth(0), Put(1, 2), Cut(1), Also([])):
            self.assertIsInstance(ask, Ask)

    def test_making_looks_at_nothing(self):
        for value in no_things() + things() + [Touchy(), Touchy]:
            for ask in (Find(value), Stretch(value, value), Stretch(None, value), Count(value, value),
                        Count(value, None), Nth(value), Put(value, value), Put(1, value), Cut(value)):
                self.assertIsInstance(ask, Ask)
        self.assertEqual(Also([Find(Touchy()), Put(1, Touchy())]).asks[0].__class__, Find)

    def test_answers(self):
        for pairs in trees():
            keeper = Keeper()
            root = laid(keeper, pairs)
            keys = bounds_for(pairs)
            rows = in_order(pairs)
            for place, key in enumerate(keys):
                self.assertEqual(Find(key).answer(keeper, root), pairs.get(key))
                self.assertEqual(Put(key, ("new", place)).answer(keeper, root),
                                 reckoned({**pairs, key: ("new", place)})[0])
                self.assertEqual(Cut(key).answer(keeper, root),
                                 reckoned({its: pairs[its] for its in pairs if its != key})[0])
            self.assertEqual(Stretch(None, None).answer(keeper, root), rows)
            self.assertEqual(Count(None, None).answer(keeper, root), len(rows))
            for number in range(-1, len(rows) + 1):
                self.assertEqual(Nth(number).answer(keeper, root), rows[number] if 0 <= number < len(rows) else None)
            if rows:
                first, last = rows[0][0], rows[-1][0]
                self.assertEqual(Stretch(first, last).answer(keeper, root), rows[:-1])
                self.assertEqual(Count(first, last).answer(keeper, root), len(rows) - 1)
                self.assertEqual(Stretch(last, None).answer(keeper, root), rows[-1:])
                self.assertEqual(Stretch(last, first).answer(keeper, root), [])
                self.assertEqual(Count(last, first).answer(keeper, root), 0)

    def test_putting_and_cutting_lay_nodes(self):
        vault = Vault()
        root = Put(5, "w").answer(vault, 0)
        self.assertEqual(vault.thing(root), (5, "w", 0, 0, 1))
        root = Put(6, "x").answer(vault, root)
        self.assertEqual(Stretch(None, None).answer(vault, root), [(5, "w"), (6, "x")])
        root = Cut(5).answer(vault, root)
        self.assertEqual(vault.thing(root), (6, "x", 0, 0, 1))

    def test_what_the_vault_refuses(self):
        for ask in (Find(1), Stretch(None, None), Count(None, None), Nth(0), Put(1, 2), Cut(1), Also([Ask(), Find(1)])):
            self.assertRaises(NoPaper, ask.answer, Vault(), 77)

    def test_an_ask_is_answered_again_and_elsewhere(self):
        ask = Also([Stretch(None, None), Find(5)])
        keeper = Keeper()
        one, other = laid(keeper, {5: "w"}), laid(keeper, {6: "v", 7: "u"})
        for turn in range(2):
            self.assertEqual(ask.answer(keeper, one), [[(5, "w")], "w"])
            self.assertEqual(ask.answer(keeper, other), [[(6, "v"), (7, "u")], None])
            self.assertEqual(ask.answer(Vault(), 0), [[], None])

    def test_arguments_by_their_names(self):
        keeper = Keeper()
        root = laid(keeper, {5: "w", 6: "v"})
        for ask, answer in [(Find(key=5), "w"), (Stretch(low=5, high=6), [(5, "w")]), (Count(low=5, high=None), 2),
                            (Nth(number=1), (6, "v")), (Put(key=5, worth="w"), root), (Cut(key=9), root),
                            (Also(asks=[Find(6)]), ["v"])]:
            self.assertEqual(ask.answer(keeper, root), answer)
            self.assertEqual(ask.answer(vault=keeper, root=root), answer)


class Several(unittest.TestCase):
    """Also."""

    def test_none_and_several(self):
        keeper = Keeper()
        root = laid(keeper, {5: "w", 6: "v"})
        self.assertEqual(Also([]).answer(keeper, root), [])
        self.assertEqual(Also([]).answer(Vault(), 77), [])
        self.assertEqual(Also([Find(5)]).answer(keeper, root), ["w"])
        self.assertEqual(Also([Nth(1), Ask(), Find(5), Count(None, None), Find(7), Stretch(6, None), Find(5)])
                         .answer(keeper, root), [(6, "v"), None, "w", 2, None, [(6, "v")], "w"])

    def test_within_one_another(self):
        keeper = Keeper()
        root = laid(keeper, {5: "w", 6: "v"})
        self.assertEqual(Also([Also([Find(5), Also([])]), Find(6)]).answer(keeper, root), [["w", []], "v"])

    def test_each_over_the_same_root(self):
        keeper = Keeper()
        root = laid(keeper, {5: "w"})
        put, found, cut, counted = Also([Put(6, "v"), Find(6), Cut(5), Count(None, None)]).answer(keeper, root)
        self.assertEqual((put, found, cut, counted), (reckoned({5: "w", 6: "v"})[0], None, 0, 1))

    def test_one_vault_in_order(self):
        notes = []
        vault = Vault()
        self.assertEqual(Also([Noting(notes), Noting(notes), Noting(notes)]).answer(vault, 77), [1, 2, 3])
        self.assertEqual(notes, [(vault, 77)] * 3)

    def test_three_hundred(self):
        keeper = Keeper()
        root = laid(keeper, {number: "w" for number in range(20)})
        self.assertEqual(Also([Nth(number) for number in range(300)]).answer(keeper, root),
                         [(number, "w") for number in range(20)] + [None] * 280)

    def test_what_becomes_of_the_list_changes_nothing(self):
        keeper = Keeper()
        root = laid(keeper, {5: "w"})
        asks = [Find(5), Find(6)]
        also = Also(asks)
        asks.append(Find(7))
        asks[0] = Count(None, None)
        self.assertEqual(also.answer(keeper, root), ["w", None])
        asks.clear()
        self.assertEqual(also.answer(keeper, root), ["w", None])
        asks = [Find(5)]
        Also(asks).answer(keeper, root)
        self.assertEqual(len(asks), 1)

    def test_lists_are_the_askers_own(self):
        keeper = Keeper()
        root = laid(keeper, {5: "w"})
        stretch = Stretch(None, None)
        also = Also([stretch, stretch, Also([])])
        told = also.answer(keeper, root)
        told[0].append("more")
        told[2].append("more")
        self.assertEqual(told[1], [(5, "w")])
        told.append("more")
        self.assertEqual(also.answer(keeper, root), [[(5, "w")], [(5, "w")], []])


if __name__ == "__main__":
    unittest.main()
