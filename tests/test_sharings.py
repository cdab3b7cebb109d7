"""Sharings: judged, their loads, and the least that can be."""

import itertools
import random
import unittest
from fractions import Fraction

from brute import (all_lots, density, is_right_sharing, laid, least_by_boxes, least_by_lots, left, load, random_blocks,
                   random_kinds, rounded_up, whole_sharings)
from odd import copies_of, odd_things, plain_things
from roundcopies import sharings
from roundcopies.errors import NoLoss, NoSharing
from roundcopies.heavies import heavy_lot
from roundcopies.layouts import Layout, table_of
from roundcopies.sharings import is_sharing, least_load, least_whole, load_of, sharing, whole_sharing
from roundcopies.sheets import Sheet
from roundcopies.tables import Table

TOLD = Table(3, (((0, 1), 3), ((1, 2), 2)))
WRONG_LOSSES = ([], [0], (3,), (0, 3), (1, 0), (0, 0), (-1,), (True,), (False, 1), 0, None, "0", {}, range(1))


def small_tables(seed, many, boxes, blocks, weight):
    """Small tables by chance."""
    chance = random.Random(seed)
    for _ in range(many):
        size = chance.randint(1, boxes)
        yield Table(size, random_blocks(chance, size, chance.randint(1, blocks), size, weight))


class TestIsSharing(unittest.TestCase):
    def assert_judged(self, right, table, loss, thing):
        self.assertIs(is_sharing(table, loss, thing), right)
        if right:
            found = load_of(table, loss, thing)
            self.assertEqual(Fraction(*found), load(table.boxes, table.blocks, thing))
        else:
            with self.assertRaises(NoSharing) as caught:
                load_of(table, loss, thing)
            self.assertIs(type(caught.exception), NoSharing)

    def test_told_by_hand(self):
        for loss, thing in (((), (1, {0: (2, 1), 1: (1, 1)})), ((), (1, {0: (0, 3), 1: (2, 0)})),
                            ((), (3, {0: (5, 4), 1: (1, 5)})), ((0,), (1, {0: (0, 3), 1: (0, 2)})),
                            ((0,), (2, {1: (3, 1), 0: (0, 6)})), ((0, 1), (1, {1: (0, 2)})),
                            ((0, 1, 2), (1, {})), ((0, 1, 2), (10 ** 59, {})), ((1, 2), (7, {0: (21, 0)}))):
            self.assert_judged(True, TOLD, loss, thing)

    def test_one_thing_otherwise(self):
        for thing in (
            (0, {0: (0, 0), 1: (0, 0)}), (-1, {0: (-3, 0), 1: (0, -2)}), (True, {0: (2, 1), 1: (1, 1)}),
            (2, {0: (2, 1), 1: (1, 1)}), ("1", {0: (2, 1), 1: (1, 1)}), ((1,), {0: (2, 1), 1: (1, 1)}),
            (None, {0: (2, 1), 1: (1, 1)}), [1, {0: (2, 1), 1: (1, 1)}], (1, {0: (2, 1), 1: (1, 1)}, 1), (1,),
            ({0: (2, 1), 1: (1, 1)}, 1), (1, [(2, 1), (1, 1)]), (1, ((2, 1), (1, 1))), (1, ((0, (2, 1)), (1, (1, 1)))),
            (1, {}), (1, {0: (2, 1)}), (1, {1: (1, 1)}), (1, {0: (2, 1), 1: (1, 1), 2: (0, 0)}),
            (1, {0: (2, 1), 2: (1, 1)}), (1, {0: (2, 1), -1: (1, 1)}), (1, {0: (2, 1), "1": (1, 1)}),
            (1, {0: (2, 1), (1,): (1, 1)}), (1, {0: (2, 1), 1: (1, 1), None: (0, 0)}),
            (1, {0: [2, 1], 1: (1, 1)}), (1, {0: (2, 1), 1: [1, 1]}), (1, {0: (2, 1), 1: {0: 1, 1: 1}}),
            (1, {0: (2, 1, 0), 1: (1, 1)}), (1, {0: (3,), 1: (1, 1)}), (1, {0: (2, 1), 1: ()}), (1, {0: (2, 1), 1: 2}),
            (1, {0: (4, -1), 1: (1, 1)}), (1, {0: (-1, 4), 1: (1, 1)}), (1, {0: (2, True), 1: (1, 1)}),
            (1, {0: (3, False), 1: (1, 1)}), (1, {0: (2, "1"), 1: (1, 1)}), (1, {0: (3, None), 1: (1, 1)}),
            (1, {0: (2, 2), 1: (1, 1)}), (1, {0: (2, 0), 1: (1, 1)}), (1, {0: (2, 1), 1: (1, 2)}),
            (1, {0: (2, 1), 1: (0, 1)}), (1, {0: (2, 1), 1: (10 ** 59, 1)}), (1, {0: (1, 1), 1: (2, 1)}),
        ):
            self.assert_judged(False, TOLD, (), thing)

    def test_one_thing_otherwise_behind_a_loss(self):
        for loss, thing in (((0,), (1, {0: (1, 2), 1: (0, 2)})), ((0,), (1, {0: (3, 0), 1: (0, 2)})),
                            ((0,), (1, {0: (3,), 1: (0, 2)})), ((0,), (1, {1: (0, 2)})),
                            ((0, 1), (1, {0: (0, 3), 1: (0, 2)})), ((0, 1), (1, {0: (0, 0), 1: (0, 2)})),
                            ((0, 1), (1, {0: (), 1: (0, 2)})), ((0, 1), (1, {1: (2, 0)})), ((0, 1), (1, {})),
                            ((0, 1, 2), (1, {0: (0, 0)})), ((0, 1, 2), (0, {})), ((0, 1, 2), (True, {})),
                            ((0, 1, 2), (1, [])), ((0, 1, 2), (1, ())), ((0, 1, 2), [1, {}]), ((0, 1, 2), (1, None)),
                            ((0, 1, 2), (1,)), ((0, 1, 2), ())):
            self.assert_judged(False, TOLD, loss, thing)

    def test_odd_things(self):
        for loss in ((), (0,), (0, 1), (0, 1, 2)):
            for thing in odd_things():
                self.assert_judged(False, TOLD, loss, thing)
                self.assert_judged(False, TOLD, loss, (thing, {0: (0, 3), 1: (0, 2)}))
                self.assert_judged(False, TOLD, (), (1, {0: (2, 1), 1: thing}))
                self.assert_judged(False, TOLD, (), (1, {0: (2, 1), 1: (1, thing)}))
        for thing in odd_things():
            if thing != {}:
                self.assert_judged(False, TOLD, (0, 1, 2), (1, thing))
            self.assert_judged(False, TOLD, (), (1, thing))

    def test_odd_keys(self):
        keys = [None, -1, 2, 10 ** 59, "", "1", b"1", (), (1,), (1, 0), int, len, Ellipsis, object(), NoLoss(), NoLoss,
                range(1), (None,), ((1,),)]
        for key in keys:
            self.assert_judged(False, TOLD, (), (1, {0: (2, 1), key: (1, 1)}))
            self.assert_judged(False, TOLD, (), (1, {0: (2, 1), 1: (1, 1), key: (1, 1)}))
            self.assert_judged(False, TOLD, (0, 1, 2), (1, {key: (1, 1)}))

    def test_all_rows_of_small_numbers(self):
        for loss in all_lots(3):
            numbers = range(-1, 4)
            for parts in (1, 2):
                for one in itertools.product(numbers, repeat=2):
                    for other in ((1, 1), (2, 2), (0, 2), (0, 4), (2, 0), (4, 0), (1, 0)):
                        for rows in ({0: one, 1: other}, {0: one}, {1: one}):
                            right = is_right_sharing(3, TOLD.blocks, loss, (parts, rows))
                            self.assert_judged(right, TOLD, loss, (parts, rows))

    def test_all_whole_sharings_of_small_tables(self):
        for table in small_tables(4, 40, 3, 3, 4):
            for loss in all_lots(table.boxes):
                made = whole_sharings(table.blocks, loss)
                for thing in made:
                    self.assert_judged(True, table, loss, thing)
                for other in all_lots(table.boxes):
                    for thing in made[:3]:
                        right = is_right_sharing(table.boxes, table.blocks, other, thing)
                        self.assert_judged(right, table, other, thing)

    def test_keys_in_any_order(self):
        self.assert_judged(True, TOLD, (), (1, {1: (1, 1), 0: (2, 1)}))

    def test_no_loss(self):
        for loss in (*odd_things(), *WRONG_LOSSES):
            for call in (is_sharing, load_of):
                for thing in ((1, {0: (2, 1), 1: (1, 1)}), None):
                    with self.assertRaises(NoLoss) as caught:
                        call(TOLD, loss, thing)
                    self.assertIs(type(caught.exception), NoLoss)

    def test_what_is_passed_is_of_any_size(self):
        many = 10 ** 400
        table = Table(2, (((0, 1), 2),))
        self.assert_judged(True, table, (), (many, {0: (many, many)}))
        self.assertEqual(load_of(table, (), (many, {0: (many, many)})), (1, 1))


class TestLoadOf(unittest.TestCase):
    def test_in_lowest_terms(self):
        table = Table(2, (((0, 1), 2), ((0,), 1)))
        for thing, right in (((1, {0: (1, 1), 1: (1,)}), (2, 1)), ((2, {0: (2, 2), 1: (2,)}), (2, 1)),
                             ((4, {0: (2, 6), 1: (4,)}), (3, 2)), ((6, {0: (0, 12), 1: (6,)}), (2, 1)),
                             ((3, {0: (1, 5), 1: (3,)}), (5, 3))):
            self.assertEqual(load_of(table, (), thing), right)
            self.assertIs(type(load_of(table, (), thing)), tuple)

    def test_nothing_is_dealt(self):
        for parts in (1, 2, 5, 10 ** 59):
            self.assertEqual(load_of(TOLD, (0, 1, 2), (parts, {})), (0, 1))

    def test_the_example(self):
        self.assertEqual(load_of(TOLD, (0,), (1, {0: (0, 3), 1: (0, 2)})), (3, 1))


class TestLeast(unittest.TestCase):
    def assert_least(self, table, loss, right):
        """All that is told of the least load, by the least load that the test knows."""
        told = (right.numerator, right.denominator)
        self.assertEqual(least_load(table, loss), told)
        self.assertIs(type(least_load(table, loss)), tuple)
        self.assertEqual(least_whole(table, loss), rounded_up(right))
        self.assertIs(type(least_whole(table, loss)), int)
        self.assert_sharing(table, loss, sharing(table, loss), right)
        whole = whole_sharing(table, loss)
        self.assertEqual(whole[0], 1)
        self.assert_sharing(table, loss, whole, Fraction(rounded_up(right)))

    def assert_sharing(self, table, loss, thing, right):
        self.assertTrue(is_right_sharing(table.boxes, table.blocks, loss, thing), thing)
        self.assertEqual(load(table.boxes, table.blocks, thing), right)
        self.assertIs(is_sharing(table, loss, thing), True)
        self.assertEqual(load_of(table, loss, thing), (right.numerator, right.denominator))

    def test_against_all_lots_of_blocks(self):
        for seed, most in ((5, 2), (6, 9), (7, 10 ** 6)):
            for table in small_tables(seed, 60, 5, 6, most):
                for loss in all_lots(table.boxes):
                    right = least_by_lots(table.blocks, loss)
                    self.assertEqual(right, least_by_boxes(table.blocks, loss))
                    self.assert_least(table, loss, right)

    def test_against_all_sets_of_boxes(self):
        for seed in range(8, 14):
            for table in small_tables(seed, 6, 8, 30, 20):
                for loss in random.Random(seed).sample(all_lots(table.boxes), min(8, 2 ** table.boxes)):
                    self.assert_least(table, loss, least_by_boxes(table.blocks, loss))

    def test_against_all_whole_sharings(self):
        for table in small_tables(14, 60, 3, 3, 4):
            for loss in all_lots(table.boxes):
                made = [load(table.boxes, table.blocks, thing) for thing in whole_sharings(table.blocks, loss)]
                self.assertEqual(least_whole(table, loss), min(made))

    def test_layouts(self):
        chance = random.Random(15)
        for moduli in ((7,), (8,), (9,), (2, 4), (3, 3), (2, 2, 2)):
            for many in (1, 2, 3):
                layout = Layout(Sheet(moduli), random_kinds(chance, Sheet(moduli).places, many, 5))
                table = table_of(layout)
                self.assertEqual(table.blocks, laid(moduli, layout.kinds))
                for loss in chance.sample(all_lots(table.boxes), 6):
                    self.assert_least(table, loss, least_by_boxes(table.blocks, loss))

    def test_all_blocks_gone(self):
        for table in (TOLD, Table(1, (((0,), 10 ** 6),)), Table(5, (((1, 3), 4), ((3,), 1)))):
            for loss in (tuple(range(table.boxes)), (1, 3) if table.boxes == 5 else tuple(range(table.boxes))):
                self.assert_least(table, loss, Fraction(0))
                self.assertEqual(sharing(table, loss), (1, {}))
                self.assertEqual(whole_sharing(table, loss), (1, {}))

    def test_by_hand(self):
        self.assertEqual(least_load(TOLD, ()), (5, 3))
        self.assertEqual(least_whole(TOLD, ()), 2)
        self.assertEqual(least_load(TOLD, (0,)), (3, 1))
        self.assertEqual(least_load(TOLD, (1,)), (3, 1))
        self.assertEqual(least_load(TOLD, (0, 1)), (2, 1))
        self.assertEqual(least_load(Table(2, (((0, 1), 5),)), ()), (5, 2))
        self.assertEqual(least_whole(Table(2, (((0, 1), 5),)), ()), 3)
        self.assertEqual(least_whole(Table(2, (((0, 1), 4),)), ()), 2)
        self.assertEqual(least_load(Table(120, (((7,), 1),)), ()), (1, 1))

    def test_no_loss(self):
        for loss in (*odd_things(), *WRONG_LOSSES):
            for call in (least_load, least_whole, sharing, whole_sharing):
                with self.assertRaises(NoLoss) as caught:
                    call(TOLD, loss)
                self.assertIs(type(caught.exception), NoLoss)


class TestGreatestTables(unittest.TestCase):
    def assert_least(self, table, loss):
        """The least load lies between what a sharing has and what some blocks cannot do without."""
        top, bottom = least_load(table, loss)
        whole = whole_sharing(table, loss)
        for thing, right in ((sharing(table, loss), Fraction(top, bottom)), (whole, rounded_up(Fraction(top, bottom)))):
            self.assertTrue(is_right_sharing(table.boxes, table.blocks, loss, thing))
            self.assertEqual(load(table.boxes, table.blocks, thing), right)
        self.assertEqual(least_whole(table, loss), rounded_up(Fraction(top, bottom)))
        self.assertEqual(whole[0], 1)
        # Densities have bottoms of at most 120: the least load is the only one that is greater than this.
        found = heavy_lot(table, loss, top * 10 ** 6 - 1, bottom * 10 ** 6)
        self.assertEqual(density(table.blocks, loss, found), Fraction(top, bottom))
        self.assertTrue(set(found) <= set(left(table.blocks, loss)))

    def losses(self, chance):
        return [(), (0,), tuple(range(60)), tuple(range(119)), tuple(range(0, 120, 3)),
                *[tuple(sorted(chance.sample(range(120), size))) for size in (2, 10, 50, 100)]]

    def test_blocks_by_chance(self):
        for most in (2, 3, 8, 40, 120):
            chance = random.Random(most)
            table = Table(120, random_blocks(chance, 120, 360, most, 10 ** 6))
            for loss in self.losses(chance):
                self.assert_least(table, loss)

    def test_many_pieces_side_by_side(self):
        chance = random.Random(16)
        for size in (1, 2, 3, 6, 10, 24):
            blocks = []
            for at in range(360):
                first = at % (120 // size) * size
                lot = sorted(chance.sample(range(first, first + size), chance.randint(1, size)))
                blocks.append((tuple(lot), chance.randint(1, 10 ** 6)))
            for loss in self.losses(chance):
                self.assert_least(Table(120, tuple(blocks)), loss)

    def test_one_piece(self):
        for weights in ([at + 1 for at in range(360)], [10 ** 6 // (at + 1) for at in range(360)],
                        [1 + at % 119 * (10 ** 6 // 119) for at in range(360)],
                        [10 ** 6 if at % 119 == 0 else 1 for at in range(360)]):
            table = Table(120, tuple([((at % 119, at % 119 + 1), weight) for at, weight in enumerate(weights)]))
            for loss in ((), (0,), (119,), (60,), (0, 30, 90)):
                self.assert_least(table, loss)

    def test_all_asks_pushed_along_one_row(self):
        # All weight lies at one end, and each block leads one box further on.
        table = Table(120, (((0,), 10 ** 6), *[((at, at + 1), 10 ** 6) for at in range(119)]))
        self.assertEqual(least_load(table, ()), (10 ** 6, 1))
        self.assert_least(table, ())
        table = Table(120, (((0, 1), 10 ** 6), *[((at, at + 1), 1) for at in range(119)]))
        self.assert_least(table, ())
        table = Table(120, (*[((at, at + 1), 10 ** 6) for at in range(119)], ((119,), 1)))
        self.assertEqual(Fraction(*least_load(table, ())), Fraction(119 * 10 ** 6 + 1, 120))
        self.assert_least(table, ())

    def test_the_heaviest(self):
        everything = tuple(range(120))
        table = Table(120, ((everything, 10 ** 6),) * 360)
        self.assertEqual(least_load(table, ()), (3 * 10 ** 6, 1))
        self.assertEqual(least_load(table, everything[1:]), (360 * 10 ** 6, 1))
        self.assertEqual(least_load(table, everything[7:]), (360 * 10 ** 6, 7))
        self.assert_least(table, ())
        self.assert_least(table, everything[7:])
        self.assertEqual(sharing(table, everything), (1, {}))

    def test_great_layouts(self):
        chance = random.Random(17)
        for moduli in ((120,), (10, 12), (2, 6, 10)):
            layout = Layout(Sheet(moduli), random_kinds(chance, 120, 3, 10 ** 6))
            for loss in self.losses(chance):
                table = table_of(layout)
                if left(table.blocks, loss):
                    self.assert_least(table, loss)


class TestNothingChanges(unittest.TestCase):
    def test_dicts_are_new_each_time(self):
        for call in (sharing, whole_sharing):
            one = call(TOLD, (0,))
            right = (one[0], dict(one[1]))
            self.assertEqual(call(TOLD, (0,)), right)
            self.assertIsNot(call(TOLD, (0,))[1], one[1])
            one[1].clear()
            self.assertEqual(call(Table(3, TOLD.blocks), (0,)), right)

    def test_arguments_stay_as_they_are(self):
        table = Table(3, TOLD.blocks)
        loss = (0,)
        thing = (1, {0: (0, 3), 1: (0, 2)})
        is_sharing(table, loss, thing)
        load_of(table, loss, thing)
        for call in (least_load, least_whole, sharing, whole_sharing):
            call(table, loss)
        self.assertEqual(thing, (1, {0: (0, 3), 1: (0, 2)}))
        self.assertEqual(vars(table), vars(TOLD))
        self.assertEqual(loss, (0,))

    def test_wrong_arguments_stay_as_they_are(self):
        things = plain_things()
        kept = copies_of(things)
        for thing in things:
            is_sharing(TOLD, (), thing)
            is_sharing(TOLD, (), (1, thing))
            for call in ((load_of, TOLD, (), thing), (load_of, TOLD, thing, thing), (sharing, TOLD, thing)):
                with self.assertRaises((NoLoss, NoSharing)):
                    call[0](*call[1:])
        self.assertEqual(things, kept)


class TestInterface(unittest.TestCase):
    def test_names_are_defined_here(self):
        for name in ("is_sharing", "load_of", "least_load", "sharing", "whole_sharing", "least_whole"):
            self.assertEqual(getattr(sharings, name).__module__, "roundcopies.sharings")


if __name__ == "__main__":
    unittest.main()
