"""The whole program: what its parts tell of the same layouts agrees; and the document's examples."""

import itertools
import random
import unittest
from fractions import Fraction

from brute import random_kinds
from roundcopies.anew import gives, is_alike, least_reading
from roundcopies.calms import (calm, calm_of_table, calm_whole, is_worst_cluster, is_worst_loss, worst_cluster,
                               worst_loss)
from roundcopies.dealers import judged_dealer
from roundcopies.desks import tale
from roundcopies.errors import Spent
from roundcopies.evens import even_steps, even_to, is_even_at
from roundcopies.heavies import heavy_lot, is_heavy
from roundcopies.layouts import Layout, copies, layout_of, table_of
from roundcopies.levels import fewest_moves, grown, is_level
from roundcopies.losses import most_gone, worst_gone
from roundcopies.menders import Mender
from roundcopies.moves import fewest_moved, least_moves, moved
from roundcopies.reading import read_layout, read_table
from roundcopies.repairs import heals, is_turns, least_turns, mended, slow, turns, wanted
from roundcopies.sharings import is_sharing, least_load, least_whole, load_of, sharing, whole_sharing
from roundcopies.sheets import Sheet, closed_lots, shifts_met, summed
from roundcopies.stores import Store
from roundcopies.tables import Table, gone
from roundcopies.texts import layout_text, table_text


def layouts_on_small_sheets():
    """Layouts by chance, of one, two and three kinds."""
    chance = random.Random(180)
    for moduli in ((3,), (4,), (5,), (6,), (7,), (8,), (2, 2), (2, 3), (2, 4), (3, 3), (2, 2, 2)):
        sheet = Sheet(moduli)
        for many in (1, 1, 2, 3):
            yield Layout(sheet, random_kinds(chance, sheet.places, many, 4, 2, 4))


def losses_of(layout, f):
    """All losses of f boxes of a layout's table."""
    return list(itertools.combinations(range(layout.sheet.places), f))


class TestLayoutsAgree(unittest.TestCase):
    def test_the_calm_is_the_greatest_least_load(self):
        for layout in layouts_on_small_sheets():
            table = table_of(layout)
            for f in range(copies(layout)):
                loads = [Fraction(*least_load(table, loss)) for loss in losses_of(layout, f)]
                self.assertEqual(max(loads), Fraction(*calm(layout, f)))
                self.assertEqual(calm(layout, f), calm_of_table(table, f))
                self.assertEqual(max([least_whole(table, loss) for loss in losses_of(layout, f)]), calm_whole(layout, f))
                loss = worst_loss(layout, f)
                self.assertEqual((len(loss), least_load(table, loss)), (f, calm(layout, f)))
                self.assertIs(is_worst_loss(layout, f, loss), True)
                self.assertIs(is_worst_cluster(layout, f, worst_cluster(layout, f)), True)
                right = Fraction(sum([weight for _, weight in table.blocks]), layout.sheet.places - f)
                self.assertEqual(is_even_at(layout, f), Fraction(*calm(layout, f)) == right)
                self.assertEqual(is_even_at(layout, f), f <= even_to(layout))

    def test_sharings_and_heavy_lots(self):
        chance = random.Random(181)
        for layout in layouts_on_small_sheets():
            table = table_of(layout)
            for f in range(layout.sheet.places + 1):
                loss = chance.choice(losses_of(layout, f))
                top, bottom = least_load(table, loss)
                for thing, most in ((sharing(table, loss), (top, bottom)),
                                    (whole_sharing(table, loss), (least_whole(table, loss), 1))):
                    self.assertIs(is_sharing(table, loss, thing), True)
                    self.assertEqual(load_of(table, loss, thing), most)
                    self.assertEqual(tuple(sorted(thing[1])), tuple([block for block in range(len(table.blocks))
                                                                    if block not in gone(table, loss)]))
                self.assertIsNone(heavy_lot(table, loss, top, bottom))
                if top > 0:
                    heavy = heavy_lot(table, loss, 1000 * top - 1, 1000 * bottom)
                    self.assertIs(is_heavy(table, loss, 1000 * top - 1, 1000 * bottom, heavy), True)
                self.assertEqual(least_whole(table, loss), -(-top // bottom))

    def test_dealers_and_the_calm(self):
        for layout in layouts_on_small_sheets():
            table = table_of(layout)
            for f in range(min(3, copies(layout))):
                top, bottom = max([calm(layout, less) for less in range(f + 1)], key=lambda pair: Fraction(*pair))
                self.assertIsNone(judged_dealer(table, f, top, bottom, lambda loss: sharing(table, loss)))
                whole = max([calm_whole(layout, less) for less in range(f + 1)])
                self.assertIsNone(judged_dealer(table, f, whole, 1, lambda loss: whole_sharing(table, loss)))
                found = judged_dealer(table, f, 1000 * top - 1, 1000 * bottom, lambda loss: sharing(table, loss))
                self.assertEqual(found[1], "load")
                self.assertGreater(Fraction(*least_load(table, found[0])), Fraction(1000 * top - 1, 1000 * bottom))

    def test_a_store_of_the_table(self):
        chance = random.Random(182)
        for layout in layouts_on_small_sheets():
            table = table_of(layout)
            for f in range(copies(layout)):
                for loss in chance.sample(losses_of(layout, f), min(4, len(losses_of(layout, f)))):
                    store = Store(table)
                    for box in loss:
                        store.lose(box)
                    self.assertLessEqual(store.least(), calm_whole(layout, f))
                    self.assertEqual(store.least(), least_whole(table, loss))
                    self.assertIs(is_sharing(table, loss, (1, store.deal())), True)
                    self.assertEqual(load_of(table, loss, (1, store.deal())), (store.least(), 1))
                    for block, (_, weight) in enumerate(table.blocks):
                        for _ in range(weight):
                            store.look(block)
                        self.assertRaises(Spent, store.look, block)
                    self.assertEqual(max(store.served()), store.least())
            store = Store(table)
            for box in worst_loss(layout, copies(layout) - 1):
                store.lose(box)
            self.assertEqual(store.least(), calm_whole(layout, copies(layout) - 1))

    def test_a_store_moves_as_few_asks_as_moves_tell(self):
        chance = random.Random(183)
        for layout in layouts_on_small_sheets():
            table = table_of(layout)
            store, loss = Store(table), ()
            for box in chance.sample(range(table.boxes), 3):
                ahead = (1, store.deal())
                store.lose(box)
                later = tuple(sorted((*loss, box)))
                self.assertEqual(store.last_moved(), fewest_moved(table, loss, ahead, later))
                self.assertEqual(store.last_moved(), moved(table, loss, ahead, later, (1, store.deal())))
                self.assertEqual(load_of(table, later, least_moves(table, loss, ahead, later)), (store.least(), 1))
                loss = later

    def test_texts(self):
        for layout in layouts_on_small_sheets():
            table = table_of(layout)
            self.assertEqual(read_layout(layout_text(layout)), layout)
            self.assertEqual(read_table(table_text(table)), table)
            self.assertEqual(layout_of(layout.sheet, read_table(table_text(table))), layout)
            self.assertEqual(table_of(read_layout(layout_text(layout))), table)
            self.assertIsNone(layout_of(layout.sheet, grown(table, 1)))

    def test_repairs_and_menders(self):
        chance = random.Random(184)
        for layout in layouts_on_small_sheets():
            table = table_of(layout)
            self.assertIs(is_level(table), True)
            for f in range(layout.sheet.places + 1):
                loss = chance.choice(losses_of(layout, f))
                found = turns(table, loss)
                self.assertIs(is_turns(table, loss, found), True)
                self.assertEqual(len(found), least_turns(table, loss))
                self.assertIsNone(slow(table, loss, len(found)))
                if found:
                    self.assertIsNotNone(slow(table, loss, len(found) - 1))
                new = mended(table, loss, tuple([transfer for turn in found for transfer in turn]))
                lacks = sum([len(one[0]) - len(other[0]) for one, other in zip(table.blocks, new.blocks)])
                self.assertEqual(heals(table, loss), lacks == 0 and gone(table, loss) == ())
                if f < copies(layout):
                    self.assertEqual(gone(table, loss), ())
                    self.assertEqual(most_gone(table, f), 0)
                    self.assertEqual(wanted(new, loss), {})
            mender = Mender(table)
            for box in range(layout.sheet.places - 4):
                mender.lose(box)
                while mender.left():
                    mender.step()
            # One box at a time is lost and mended: nothing is gone.
            self.assertEqual((mender.gone_blocks(), mender.wants()), ((), {}))
            there = table.boxes - len(mender.lost())
            self.assertEqual([len(lot) for lot, _ in mender.now().blocks],
                             [min(len(lot), there) for lot, _ in table.blocks])


class TestExamples(unittest.TestCase):
    def setUp(self):
        self.c = Sheet((8,))
        self.p = Layout(self.c, (((0, 4), 1),))
        self.t = Table(3, (((0, 1), 3), ((1, 2), 2)))

    def test_e01(self):
        self.assertEqual(summed(Sheet((2, 3)), 5, 4), 0)
        self.assertEqual(closed_lots(Sheet((4,))), [(0,), (0, 1, 2, 3), (0, 2)])
        self.assertEqual(shifts_met(self.c, (0, 4), (0, 1, 4, 5)), 2)

    def test_e02(self):
        self.assertEqual(gone(self.t, (1, 2)), (1,))
        self.assertEqual(copies(self.p), 2)
        self.assertEqual(table_of(Layout(Sheet((3,)), (((0, 1), 1),))), Table(3, (((0, 1), 1), ((1, 2), 1), ((0, 2), 1))))

    def test_e03(self):
        self.assertEqual((least_load(self.t, ()), least_whole(self.t, ())), ((5, 3), 2))
        self.assertEqual(load_of(self.t, (0,), (1, {0: (0, 3), 1: (0, 2)})), (3, 1))

    def test_e04(self):
        self.assertIs(is_heavy(self.t, (0,), 2, 1, (0, 1)), True)
        self.assertIsNone(heavy_lot(self.t, (0,), 3, 1))

    def test_e05(self):
        self.assertEqual(calm(self.p, 1), (2, 1))
        self.assertEqual(calm(Layout(self.c, (((0, 1, 4, 5), 1),)), 3), (2, 1))
        self.assertEqual(calm(Layout(self.c, (((0, 1), 1),)), 1), (8, 7))

    def test_e06(self):
        self.assertEqual(even_to(Layout(self.c, (((0, 1, 4, 5), 1),))), 2)
        self.assertEqual(even_steps(Sheet((4,)), 2), [(0, 1), (0, 3)])

    def test_e07(self):
        self.assertEqual((most_gone(table_of(self.p), 2), worst_gone(table_of(self.p), 2)), (2, (0, 4)))

    def test_e08(self):
        self.assertEqual(gives(Layout(Sheet((7,)), (((0, 1, 3), 1),)), 2), (1, 2))
        self.assertIs(is_alike(Layout(Sheet((7,)), (((0, 1, 3), 1),))), True)
        self.assertEqual(least_reading(self.p, 0), (2, 1))

    def test_e09(self):
        self.assertEqual(fewest_moved(self.t, (), (1, {0: (2, 1), 1: (1, 1)}), (0,)), 3)

    def test_e10(self):
        told = tale(self.t, ["put 0 a", "lose 0", "look 0", "least", "back 0", "stale"])
        self.assertEqual(told, ["ok", "ok", "a", "3", "ok", "none"])

    def test_e11(self):
        self.assertEqual(table_text(self.t), "boxes 3\nblock 3 0 1\nblock 2 1 2\n")

    def test_e12(self):
        self.assertEqual(wanted(self.t, (1,)), {0: 1, 1: 1})
        self.assertEqual(turns(self.t, (1,)), (((0, 0, 2), (1, 2, 0)),))
        self.assertEqual(least_turns(self.t, (1,)), 1)
        self.assertIsNone(slow(self.t, (1,), 1))
        self.assertEqual(mended(self.t, (1,), ((0, 0, 2), (1, 2, 0))), Table(3, (((0, 2), 3), ((0, 2), 2))))

    def test_e13(self):
        table = Table(2, (((0,), 1), ((0,), 1)))
        self.assertEqual((is_level(table), fewest_moves(table), grown(self.t, 1).boxes), (False, 1, 4))

    def test_e14(self):
        mender = Mender(self.t)
        mender.lose(1)
        self.assertEqual([mender.left(), mender.step(), mender.left(), mender.wants()], [1, ((0, 0, 2), (1, 2, 0)), 0, {}])


if __name__ == "__main__":
    unittest.main()
