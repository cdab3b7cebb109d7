"""Heavy lots: found just below the least load, and judged."""

import itertools
import random
import unittest
from fractions import Fraction

from brute import all_lots, density, least_by_boxes, left, random_blocks
from odd import copies_of, odd_things, plain_things
from roundcopies import heavies
from roundcopies.errors import NoFraction, NoLoss
from roundcopies.heavies import heavy_lot, is_heavy
from roundcopies.tables import Table

TOLD = Table(3, (((0, 1), 3), ((1, 2), 2)))
MOST = 10 ** 30


def is_right(blocks, loss, fraction, lot):
    """Whether a lot of blocks is heavy, by the words of the document."""
    return len(lot) > 0 and set(lot) <= set(left(blocks, loss)) and density(blocks, loss, lot) > fraction


class TestHeavyLot(unittest.TestCase):
    def assert_right(self, table, loss, top, bottom, least):
        found = heavy_lot(table, loss, top, bottom)
        if Fraction(top, bottom) >= least:
            self.assertIs(found, None)
        else:
            self.assertIs(type(found), tuple)
            self.assertEqual(list(found), sorted(set(found)))
            self.assertTrue(is_right(table.blocks, loss, Fraction(top, bottom), found))
            self.assertIs(is_heavy(table, loss, top, bottom, found), True)

    def test_none_exactly_from_the_least_load_on(self):
        chance = random.Random(20)
        for _ in range(60):
            boxes = chance.randint(1, 6)
            table = Table(boxes, random_blocks(chance, boxes, chance.randint(1, 12), boxes, chance.choice((2, 30))))
            for loss in chance.sample(all_lots(boxes), min(5, 2 ** boxes)):
                least = least_by_boxes(table.blocks, loss)
                top, bottom = least.numerator, least.denominator
                for more in (1, 2, 7, 10 ** 20):
                    for apart in (-2, -1, 0, 1, 2):
                        if top * more + apart >= 0:
                            self.assert_right(table, loss, top * more + apart, bottom * more, least)
                for fraction in ((0, 1), (0, MOST), (1, MOST), (MOST, 1), (MOST, MOST), (1, 2), (4, 2), (6, 4)):
                    self.assert_right(table, loss, *fraction, least)

    def test_all_small_fractions(self):
        for loss in all_lots(3):
            least = least_by_boxes(TOLD.blocks, loss)
            for top, bottom in itertools.product(range(12), range(1, 7)):
                self.assert_right(TOLD, loss, top, bottom, least)

    def test_just_at_the_greatest_numbers(self):
        table = Table(7, (((0, 1, 2, 3, 4, 5, 6), 10 ** 6),))
        many = MOST // (10 ** 6)
        self.assertIs(heavy_lot(table, (), 10 ** 6 * (many // 7), 7 * (many // 7)), None)
        self.assertEqual(heavy_lot(table, (), 10 ** 6 * (many // 7) - 1, 7 * (many // 7)), (0,))
        self.assertIs(heavy_lot(table, (), MOST, 1), None)
        self.assertEqual(heavy_lot(table, (), 1, MOST), (0,))

    def test_all_blocks_gone(self):
        for top, bottom in ((0, 1), (0, MOST), (1, MOST), (MOST, MOST)):
            self.assertIs(heavy_lot(TOLD, (0, 1, 2), top, bottom), None)
            self.assertIs(is_heavy(TOLD, (0, 1, 2), top, bottom, (0,)), False)

    def test_the_example(self):
        self.assertIs(heavy_lot(TOLD, (0,), 3, 1), None)
        self.assertEqual(heavy_lot(TOLD, (0, 1), 1, 1), (1,))
        self.assertEqual(heavy_lot(TOLD, (), 3, 2), (0, 1))

    def test_great_tables(self):
        chance = random.Random(21)
        for most in (2, 5, 120):
            table = Table(120, random_blocks(chance, 120, 360, most, 10 ** 6))
            every = Fraction(sum([weight for _, weight in table.blocks]), 120)
            for loss in ((), tuple(range(0, 120, 2))):
                found = heavy_lot(table, loss, every.numerator - 1, every.denominator)
                self.assertTrue(is_right(table.blocks, loss, every - Fraction(1, every.denominator), found))


class TestIsHeavy(unittest.TestCase):
    def test_all_lots(self):
        chance = random.Random(22)
        for _ in range(25):
            boxes = chance.randint(1, 4)
            table = Table(boxes, random_blocks(chance, boxes, chance.randint(1, 5), boxes, 6))
            for loss in all_lots(boxes):
                for top, bottom in ((0, 1), (1, 1), (2, 1), (3, 2), (4, 2), (7, 3), (5, 4), (20, 1)):
                    for lot in all_lots(len(table.blocks)):
                        right = is_right(table.blocks, loss, Fraction(top, bottom), lot)
                        self.assertIs(is_heavy(table, loss, top, bottom, lot), right)

    def test_just_at_below_and_above(self):
        for more in (1, 2, 10 ** 29 // 3):
            for apart, right in ((-1, True), (0, False), (1, False)):
                self.assertIs(is_heavy(TOLD, (), 5 * more + apart, 3 * more, (0, 1)), right)

    def test_the_example(self):
        self.assertIs(is_heavy(TOLD, (0,), 2, 1, (0, 1)), True)

    def test_other_things(self):
        for thing in (*odd_things(), (), [], [0], [0, 1], (1, 0), (0, 0), (0, 1, 1), (2,), (0, 2), (-1, 0), (True,),
                      (False,), (0, True), (False, 1), 0, 1, "0", {0: 1}, range(2), None, ((0, 1),), (0, 1, 2)):
            self.assertIs(is_heavy(TOLD, (), 0, 1, thing), False)
        for thing in odd_things():
            self.assertIs(is_heavy(TOLD, (), 0, 1, (thing,)), False)
            self.assertIs(is_heavy(TOLD, (), 0, 1, (0, thing)), False)
        self.assertIs(is_heavy(TOLD, (), 0, 1, (0, 1)), True)

    def test_a_gone_block_is_in_no_heavy_lot(self):
        self.assertIs(is_heavy(TOLD, (0, 1), 0, 1, (1,)), True)
        self.assertIs(is_heavy(TOLD, (0, 1), 0, 1, (0,)), False)
        self.assertIs(is_heavy(TOLD, (0, 1), 0, 1, (0, 1)), False)


class TestErrors(unittest.TestCase):
    def assert_raises(self, error, *arguments):
        for call in ((heavy_lot, *arguments), (is_heavy, *arguments, (0,)), (is_heavy, *arguments, None)):
            with self.assertRaises(error) as caught:
                call[0](*call[1:])
            self.assertIs(type(caught.exception), error)

    def test_no_fraction(self):
        for thing in (*odd_things(), "1", (1,), [1], -1, MOST + 1, 10 ** 59, True, False, None):
            self.assert_raises(NoFraction, TOLD, (), thing, 1)
            self.assert_raises(NoFraction, TOLD, (), 1, thing)
            self.assert_raises(NoFraction, TOLD, (), thing, thing)
        self.assert_raises(NoFraction, TOLD, (), 1, 0)
        self.assert_raises(NoFraction, TOLD, (), 0, 0)
        self.assert_raises(NoFraction, TOLD, (), 1, -MOST)
        self.assert_raises(NoFraction, TOLD, (), (1, 1), 1)

    def test_the_greatest_numbers_are_right(self):
        for top, bottom in ((MOST, MOST), (0, MOST), (MOST, 1), (0, 1)):
            heavy_lot(TOLD, (), top, bottom)
            is_heavy(TOLD, (), top, bottom, (0,))

    def test_no_loss_ahead_of_no_fraction(self):
        for loss in (*odd_things(), [], [0], (3,), (0, 3), (1, 0), (0, 0), (-1,), (True,), 0, None):
            for top, bottom in ((1, 1), (None, None), (1, 0), (-1, 1), (True, 1)):
                self.assert_raises(NoLoss, TOLD, loss, top, bottom)


class TestNothingChanges(unittest.TestCase):
    def test_arguments_stay_as_they_are(self):
        table = Table(3, TOLD.blocks)
        self.assertEqual(heavy_lot(table, (), 1, 1), heavy_lot(TOLD, (), 1, 1))
        is_heavy(table, (), 1, 1, (0, 1))
        self.assertEqual(vars(table), vars(TOLD))
        things = plain_things()
        kept = copies_of(things)
        for thing in things:
            is_heavy(TOLD, (), 1, 1, thing)
            for arguments in ((TOLD, thing, 1, 1), (TOLD, (), thing, 1), (TOLD, (), 1, thing)):
                with self.assertRaises((NoLoss, NoFraction)):
                    heavy_lot(*arguments)
        self.assertEqual(things, kept)


class TestInterface(unittest.TestCase):
    def test_names_are_defined_here(self):
        for name in ("heavy_lot", "is_heavy"):
            self.assertEqual(getattr(heavies, name).__module__, "roundcopies.heavies")


if __name__ == "__main__":
    unittest.main()
