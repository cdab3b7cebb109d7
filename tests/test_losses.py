"""What is lost for good, against all losses."""

import itertools
import random
import time
import unittest

from brute import laid, random_blocks, random_kinds
from odd import copies_of, odd_things, plain_things
from roundcopies import losses
from roundcopies.errors import NoNumber, TooMany
from roundcopies.layouts import Layout, table_of
from roundcopies.losses import most_gone, worst_gone
from roundcopies.sheets import Sheet
from roundcopies.tables import Table, gone
from roundcopies.within import weights_within

TOLD = Table(3, (((0, 1), 3), ((1, 2), 2)))


class TestAllLosses(unittest.TestCase):
    def assert_right(self, boxes, blocks, many):
        """The first of all losses, in their order, behind which the most is gone."""
        most, worst = -1, None
        for loss in itertools.combinations(range(boxes), many):
            weight = sum([weight for lot, weight in blocks if set(lot) <= set(loss)])
            if weight > most:
                most, worst = weight, loss
        table = Table(boxes, blocks)
        self.assertEqual(most_gone(table, many), most)
        self.assertEqual(worst_gone(table, many), worst)
        self.assertEqual((type(most_gone(table, many)), type(worst_gone(table, many))), (int, tuple))
        self.assertEqual(sum([blocks[number][1] for number in gone(table, worst)]), most)

    def test_tables_by_chance(self):
        chance = random.Random(50)
        for _ in range(60):
            boxes = chance.randint(1, 8)
            blocks = random_blocks(chance, boxes, chance.randint(1, 20), 3, chance.choice((1, 4, 10 ** 6)))
            for many in range(boxes + 1):
                self.assert_right(boxes, blocks, many)

    def test_layouts(self):
        chance = random.Random(51)
        for moduli in ((7,), (8,), (2, 4), (3, 3)):
            for many_kinds in (1, 2, 3):
                kinds = random_kinds(chance, Sheet(moduli).places, many_kinds, 4, 1, 4)
                for many in range(Sheet(moduli).places + 1):
                    self.assert_right(Sheet(moduli).places, laid(moduli, kinds), many)

    def test_the_least_loss_where_several_are(self):
        for boxes in (1, 2, 5):
            blocks = tuple([((box,), 1) for box in range(boxes)])
            for many in range(boxes + 1):
                self.assertEqual(worst_gone(Table(boxes, blocks), many), tuple(range(many)))
                self.assertEqual(most_gone(Table(boxes, blocks), many), many)
        self.assertEqual(worst_gone(Table(4, (((2, 3), 2), ((0, 3), 2))), 2), (0, 3))
        self.assertEqual(worst_gone(Table(4, (((2, 3), 2),)), 3), (0, 2, 3))
        self.assertEqual(worst_gone(Table(4, (((2, 3), 2), ((0, 1), 2))), 3), (0, 1, 2))
        self.assertEqual(worst_gone(Table(4, (((1, 2, 3), 2),)), 2), (0, 1))

    def test_none_and_all_boxes(self):
        for table in (TOLD, Table(14, (((3, 7), 5), ((13,), 10 ** 6)))):
            self.assertEqual(most_gone(table, 0), 0)
            self.assertEqual(worst_gone(table, 0), ())
            self.assertEqual(most_gone(table, table.boxes), sum([weight for _, weight in table.blocks]))
            self.assertEqual(worst_gone(table, table.boxes), tuple(range(table.boxes)))

    def test_the_example(self):
        table = table_of(Layout(Sheet((8,)), (((0, 4), 1),)))
        self.assertEqual(most_gone(table, 2), 2)
        self.assertEqual(worst_gone(table, 2), (0, 4))

    def test_rings_of_neighbours(self):
        for places in range(1, 15):
            for many_steps in range(1, min(8, places) + 1):
                table = table_of(Layout(Sheet((places,)), ((tuple(range(many_steps)), 1),)))
                for many in range(places + 1):
                    right = 0 if many < many_steps else places if many == places else many - many_steps + 1
                    self.assertEqual(most_gone(table, many), right)
                    self.assertEqual(worst_gone(table, many), tuple(range(many)))

    def test_14_boxes(self):
        chance = random.Random(52)
        blocks = random_blocks(chance, 14, 360, 5, 10 ** 6)
        for many in (1, 4, 13):
            self.assert_right(14, blocks, many)

    def test_few_blocks_and_as_many_as_boxes(self):
        # Few lots are gone through in another way than many: both must tell the same.
        chance = random.Random(53)
        for boxes in (2, 3, 5, 8, 9):
            for many_blocks in (1, 2, boxes - 1, boxes, boxes + 1, 2 * boxes):
                for most, weight in ((1, 1), (2, 1), (boxes, 1), (3, 3), (boxes, 10 ** 6)):
                    blocks = random_blocks(chance, boxes, many_blocks, most, weight)
                    for many in range(boxes + 1):
                        self.assert_right(boxes, blocks, many)
        for boxes in (12, 14):
            for most, weight in ((1, 1), (2, 2), (6, 1)):
                blocks = random_blocks(chance, boxes, 12, most, weight)
                for many in (0, 1, 2, 7, boxes - 1, boxes):
                    self.assert_right(boxes, blocks, many)

    def test_blocks_on_the_same_boxes_are_lost_together(self):
        blocks = (((3, 4), 2), ((0,), 3), ((3, 4), 2), ((1, 2), 3))
        table = Table(6, blocks)
        self.assertEqual([most_gone(table, many) for many in range(7)], [0, 3, 4, 7, 7, 10, 10])
        self.assertEqual([worst_gone(table, many) for many in range(7)],
                         [(), (0,), (3, 4), (0, 3, 4), (0, 1, 3, 4), (0, 1, 2, 3, 4), (0, 1, 2, 3, 4, 5)])


class TestHowLong(unittest.TestCase):
    def shortest(self, call, *args):
        """The shortest of some times that a call takes."""
        found = []
        for _ in range(7):
            start = time.perf_counter()
            call(*args)
            found.append(time.perf_counter() - start)
        return min(found)

    def test_few_blocks_take_far_less_than_all_sets_of_boxes(self):
        chance = random.Random(54)
        told = (((0, 1), 3), ((2, 13), 2), ((5,), 1), ((1, 3, 7), 2), ((4, 6), 5), ((8, 9, 10, 11), 1), ((0, 12), 2),
                ((3,), 4), ((6, 7), 1), ((2, 5), 1), ((9, 13), 2), ((1, 12), 3))
        tables = [told, tuple([((box,), 1) for box in range(12)]), tuple([((box, box + 2), 1) for box in range(12)]),
                  random_blocks(chance, 14, 12, 3, 2), random_blocks(chance, 14, 12, 6, 1)]
        # Going through the sets of boxes takes so long, on whichever machine.
        most = self.shortest(weights_within, Table(14, told)) / 2
        for blocks in tables:
            for many in (0, 1, 3, 5, 6, 7, 9, 14):
                for call in (most_gone, worst_gone):
                    self.assertLess(self.shortest(call, Table(14, blocks), many), most, (blocks, many))


class TestErrors(unittest.TestCase):
    def assert_raises(self, error, table, many):
        for call in (most_gone, worst_gone):
            with self.assertRaises(error) as caught:
                call(table, many)
            self.assertIs(type(caught.exception), error)
            if error is TooMany:
                self.assertEqual(caught.exception.most, 14)

    def test_no_number(self):
        for table in (TOLD, Table(1, (((0,), 1),)), Table(14, (((0,), 1),)), Table(15, (((0,), 1),)),
                      Table(120, (((0,), 1),))):
            for many in (*odd_things(), -1, table.boxes + 1, table.boxes + 2, 121, 10 ** 59, True, False, "1", (1,), [1],
                         None, ()):
                self.assert_raises(NoNumber, table, many)

    def test_too_many(self):
        for boxes in (15, 16, 120):
            for many in (0, 1, 14, 15, boxes):
                self.assert_raises(TooMany, Table(boxes, (((0,), 1),)), many)


class TestNothingChanges(unittest.TestCase):
    def test_arguments_stay_as_they_are(self):
        table = Table(3, TOLD.blocks)
        for call in (most_gone, worst_gone):
            self.assertEqual(call(table, 2), call(TOLD, 2))
        self.assertEqual(vars(table), vars(TOLD))
        things = plain_things()
        kept = copies_of(things)
        for thing in things:
            for call in (most_gone, worst_gone):
                with self.assertRaises(NoNumber):
                    call(TOLD, thing)
        self.assertEqual(things, kept)


class TestInterface(unittest.TestCase):
    def test_names_are_defined_here(self):
        for name in ("most_gone", "worst_gone"):
            self.assertEqual(getattr(losses, name).__module__, "roundcopies.losses")


if __name__ == "__main__":
    unittest.main()
