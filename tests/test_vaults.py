"""Points 8 and 9, vaults; and point 2 for them."""

import unittest

from papervault.errors import BadThing, Clash, NoPaper
from papervault.seals import seal
from papervault.vaults import Keeper, Reader, Vault, Witness
from tests.helper import brief, folded, no_things, things, twins_of

# Two unlike things with the seal of None, and two with that of the text "a".
NONE_TWIN, NONE_THIRD = twins_of([1], 2)
A_TWIN, A_THIRD = twins_of([3, 1, 97], 2)


def by_seal(row):
    return sorted(row, key=seal)


def vaults():
    """One new vault of each kind, empty."""
    return [Vault(), Keeper(), Reader(Keeper()), Witness([])]


class Checks(unittest.TestCase):

    def clashes(self, vault, thing, there):
        """Laying is refused with Clash of the two things."""
        with self.assertRaises(Clash) as taken:
            vault.lay(thing)
        self.assertEqual((taken.exception.one, taken.exception.other), (there, thing))

    def lacks(self, vault, number):
        with self.assertRaises(NoPaper):
            vault.thing(number)


class EachVault(Checks):
    """Point 8, of every vault."""

    def test_laying_tells_the_seal_and_the_seal_the_thing(self):
        for vault in vaults():
            for thing in things():
                self.assertEqual(vault.lay(thing), seal(thing))
                self.assertEqual(vault.thing(seal(thing)), thing)
            for thing in things():
                self.assertEqual(vault.thing(seal(thing)), thing)

    def test_the_seals_of_some_things(self):
        for vault in vaults():
            self.assertEqual(vault.lay(None), folded([1]))
            self.assertEqual(vault.lay(("a", 5)), folded([4, 2, 3, 1, 97, 2, 10 ** 15, 5]))

    def test_laying_again(self):
        for vault in vaults():
            for thing in things():
                vault.lay(thing)
            for thing in things():
                self.assertEqual(vault.lay(thing), seal(thing))
                self.assertEqual(vault.thing(seal(thing)), thing)

    def test_parts_are_not_laid(self):
        for vault in vaults():
            vault.lay(("a", (1,)))
            for part in ("a", 1, (1,)):
                self.lacks(vault, seal(part))

    def test_no_paper(self):
        for vault in vaults():
            for number in (0, -1, 1, seal("a"), 2 ** 61 - 1, 2 ** 61, 10 ** 40):
                self.lacks(vault, number)
            vault.lay("b")
            for number in (0, -1, 1, seal("a"), seal("b") - 1, seal("b") + 1, -seal("b")):
                self.lacks(vault, number)

    def test_clash(self):
        for there, other, third in [("a", A_TWIN, A_THIRD), (A_TWIN, "a", A_THIRD), (None, NONE_TWIN, NONE_THIRD),
                                    (NONE_TWIN, None, NONE_THIRD)]:
            for vault in vaults():
                vault.lay(there)
                self.clashes(vault, other, there)
                self.clashes(vault, third, there)
                self.assertEqual(vault.thing(seal(other)), there)
                self.assertEqual(vault.lay(there), seal(there))
                self.assertEqual(vault.thing(seal(other)), there)

    def test_a_clash_changes_no_other_thing(self):
        for vault in vaults():
            for thing in ("a", 1, None, ()):
                vault.lay(thing)
            self.clashes(vault, A_TWIN, "a")
            for thing in ("a", 1, None, ()):
                self.assertEqual(vault.thing(seal(thing)), thing)

    def test_vaults_are_apart(self):
        for one, other in zip(vaults(), vaults()):
            one.lay("a")
            self.lacks(other, seal("a"))
            self.assertEqual(other.lay(A_TWIN), seal("a"))

    def test_somewhat_beyond_the_bounds_is_laid(self):
        for vault in vaults():
            for thing in (10 ** 30 + 1, "a" * 61, (1,) * 41, ((((((1,),),),),),)):
                self.assertEqual(vault.thing(vault.lay(thing)), thing)


class Keepers(Checks):

    def test_empty_at_first(self):
        self.assertEqual(Keeper().things(), [])

    def test_things_rise_by_seals_each_once(self):
        keeper = Keeper()
        for thing in things() + things()[::-1]:
            keeper.lay(thing)
        self.assertEqual(keeper.things(), by_seal(things()))

    def test_things_are_not_in_the_order_of_things_or_of_laying(self):
        self.assertNotEqual(by_seal(things()), things())
        keeper = Keeper()
        for thing in by_seal(things())[::-1]:
            keeper.lay(thing)
        self.assertEqual(keeper.things(), by_seal(things()))

    def test_a_clash_changes_nothing(self):
        keeper = Keeper()
        keeper.lay("a")
        keeper.lay(5)
        self.clashes(keeper, A_TWIN, "a")
        self.assertEqual(keeper.things(), by_seal(["a", 5]))

    def test_asking_changes_nothing(self):
        keeper = Keeper()
        keeper.lay("a")
        keeper.thing(seal("a"))
        self.lacks(keeper, seal("b"))
        self.assertEqual(keeper.things(), ["a"])

    def test_the_list_is_the_askers_own(self):
        keeper = Keeper()
        keeper.lay("a")
        told = keeper.things()
        told.append("b")
        told[0] = "c"
        self.assertEqual(keeper.things(), ["a"])
        self.assertEqual(keeper.thing(seal("a")), "a")
        self.lacks(keeper, seal("b"))
        told = keeper.things()
        keeper.lay("b")
        self.assertEqual(told, ["a"])
        self.assertIsNot(keeper.things(), keeper.things())


class Readers(Checks):

    def setUp(self):
        self.keeper = Keeper()
        for thing in ("a", "b", "c", 1, 2, None, (1, "a")):
            self.keeper.lay(thing)
        self.before = self.keeper.things()
        self.reader = Reader(self.keeper)

    def tearDown(self):
        self.assertEqual(self.keeper.things(), self.before)

    def test_it_notes_what_it_reads(self):
        self.assertEqual(self.reader.paper(), [])
        for number, thing in enumerate(["a", None, (1, "a"), 2]):
            self.assertEqual(self.reader.thing(seal(thing)), thing)
            self.assertEqual(len(self.reader.paper()), number + 1)
        self.assertEqual(self.reader.paper(), by_seal(["a", None, (1, "a"), 2]))

    def test_the_paper_rises_by_seals_whatever_the_order_of_asking(self):
        for thing in by_seal(self.before)[::-1]:
            self.reader.thing(seal(thing))
        self.assertEqual(self.reader.paper(), by_seal(self.before))
        self.assertEqual(self.reader.paper(), self.before)

    def test_each_once(self):
        for thing in ("b", "a", "b", "b", "a"):
            self.reader.thing(seal(thing))
        self.assertEqual(self.reader.paper(), by_seal(["a", "b"]))

    def test_what_is_refused_is_not_noted(self):
        for number in (0, -1, seal("z")):
            self.lacks(self.reader, number)
        self.assertEqual(self.reader.paper(), [])

    def test_its_own_things_are_not_noted(self):
        self.reader.lay("z")
        self.assertEqual(self.reader.thing(seal("z")), "z")
        self.assertEqual(self.reader.paper(), [])

    def test_a_thing_of_both_is_its_own(self):
        self.assertEqual(self.reader.lay("a"), seal("a"))
        self.assertEqual(self.reader.thing(seal("a")), "a")
        self.assertEqual(self.reader.paper(), [])

    def test_laying_notes_nothing(self):
        for thing in ("z", "a", "y"):
            self.reader.lay(thing)
        self.clashes(self.reader, A_TWIN, "a")
        self.assertEqual(self.reader.paper(), [])

    def test_laying_takes_no_note_back(self):
        self.reader.thing(seal("a"))
        self.reader.lay("a")
        self.reader.thing(seal("a"))
        self.assertEqual(self.reader.paper(), ["a"])

    def test_what_is_laid_is_in_no_other_vault(self):
        other = Reader(self.keeper)
        self.reader.lay("z")
        self.lacks(self.keeper, seal("z"))
        self.lacks(other, seal("z"))
        self.lacks(Reader(self.keeper), seal("z"))

    def test_notes_are_its_own(self):
        other = Reader(self.keeper)
        self.reader.thing(seal("a"))
        other.thing(seal("b"))
        self.assertEqual((self.reader.paper(), other.paper()), (["a"], ["b"]))

    def test_a_clash_with_its_own(self):
        self.reader.lay("z")
        for twin in twins_of([3, 1, ord("z")], 2):
            self.clashes(self.reader, twin, "z")
        self.assertEqual(self.reader.thing(seal("z")), "z")
        self.assertEqual(self.reader.paper(), [])

    def test_a_clash_with_the_keepers(self):
        self.clashes(self.reader, A_TWIN, "a")
        self.clashes(self.reader, NONE_TWIN, None)
        self.assertEqual(self.reader.paper(), [])
        self.assertEqual(self.reader.thing(seal("a")), "a")
        self.assertEqual(self.reader.paper(), ["a"])

    def test_a_clash_with_a_thing_of_both(self):
        self.reader.lay("a")
        self.clashes(self.reader, A_TWIN, "a")
        self.assertEqual(self.reader.thing(seal("a")), "a")
        self.assertEqual(self.reader.paper(), [])

    def test_what_the_keeper_gets_later_is_read_too(self):
        keeper = Keeper()
        reader = Reader(keeper)
        self.lacks(reader, seal("z"))
        keeper.lay("z")
        self.assertEqual(reader.thing(seal("z")), "z")
        self.assertEqual(reader.paper(), ["z"])

    def test_its_own_goes_ahead_of_what_the_keeper_gets_later(self):
        keeper = Keeper()
        reader = Reader(keeper)
        reader.lay("a")
        keeper.lay(A_TWIN)
        self.assertEqual(reader.thing(seal("a")), "a")
        self.assertEqual(reader.paper(), [])
        self.clashes(reader, A_THIRD, "a")

    def test_the_list_is_the_askers_own(self):
        self.reader.thing(seal("a"))
        told = self.reader.paper()
        told.append("z")
        told[0] = "y"
        self.assertEqual(self.reader.paper(), ["a"])
        told = self.reader.paper()
        self.reader.thing(seal("b"))
        self.assertEqual(told, ["a"])
        self.assertIsNot(self.reader.paper(), self.reader.paper())


class Witnesses(Checks):

    def refused(self, paper, error):
        with self.assertRaises(error, msg=brief(paper)) as taken:
            Witness(paper)
        self.assertIs(taken.exception.__class__, error)
        return taken.exception

    def test_it_has_the_things_of_its_paper(self):
        witness = Witness(things())
        for thing in things():
            self.assertEqual(witness.thing(seal(thing)), thing)
        self.lacks(witness, seal("not in it"))
        self.lacks(witness, 0)

    def test_an_empty_paper(self):
        self.lacks(Witness([]), seal(None))

    def test_things_twice_and_in_any_order(self):
        witness = Witness(["b", "a", None, "b", "a", "a", None])
        for thing in ("a", "b", None):
            self.assertEqual(witness.thing(seal(thing)), thing)

    def test_a_long_paper(self):
        witness = Witness([(number, "row") for number in range(3000)])
        self.assertEqual(witness.thing(seal((2999, "row"))), (2999, "row"))

    def test_bad_things(self):
        for value in no_things():
            for paper in ([value], ["a", value], [value, "a"], [("a", value)], [("a", (1, (value,)))]):
                self.refused(paper, BadThing)

    def test_clashes(self):
        for paper in (["a", A_TWIN], ["b", "a", 1, A_TWIN, 2], ["a", A_TWIN, A_THIRD], ["a", "a", A_TWIN]):
            clash = self.refused(paper, Clash)
            self.assertEqual((clash.one, clash.other), ("a", A_TWIN))
        clash = self.refused([A_TWIN, "a"], Clash)
        self.assertEqual((clash.one, clash.other), (A_TWIN, "a"))
        clash = self.refused([None, NONE_TWIN], Clash)
        self.assertEqual((clash.one, clash.other), (None, NONE_TWIN))

    def test_the_first_of_these(self):
        self.refused(["a", A_TWIN, True], Clash)
        self.refused(["a", True, A_TWIN], BadThing)
        self.refused([[], "a", A_TWIN], BadThing)
        clash = self.refused(["a", None, NONE_TWIN, A_TWIN, 1.5], Clash)
        self.assertEqual((clash.one, clash.other), (None, NONE_TWIN))

    def test_what_becomes_of_the_paper_changes_nothing(self):
        paper = ["a", ("b", 1)]
        witness = Witness(paper)
        self.assertEqual(paper, ["a", ("b", 1)])
        paper.append("z")
        paper[0] = A_TWIN
        self.assertEqual(witness.thing(seal("a")), "a")
        self.lacks(witness, seal("z"))
        paper.clear()
        self.assertEqual(witness.thing(seal(("b", 1))), ("b", 1))

    def test_laying_into_it_changes_no_paper(self):
        paper = ["a"]
        witness = Witness(paper)
        witness.lay("z")
        self.clashes(witness, A_TWIN, "a")
        self.assertEqual(paper, ["a"])
        self.lacks(Witness(paper), seal("z"))

    def test_a_readers_paper_makes_a_witness(self):
        keeper = Keeper()
        for thing in things():
            keeper.lay(thing)
        reader = Reader(keeper)
        for thing in things()[::2]:
            reader.thing(seal(thing))
        witness = Witness(reader.paper())
        for place, thing in enumerate(things()):
            if place % 2 == 0:
                self.assertEqual(witness.thing(seal(thing)), thing)
            else:
                self.lacks(witness, seal(thing))


if __name__ == "__main__":
    unittest.main()
