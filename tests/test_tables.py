"""Tables of copies, losses, and the blocks that are gone."""

import itertools
import unittest
from unittest import mock

from brute import all_lots
from odd import copies_of, odd_things, plain_things
from roundcopies import tables
from roundcopies.errors import BadTable, NoLoss
from roundcopies.tables import Table, gone, is_loss

BLOCK = ((0,), 1)


class TestTable(unittest.TestCase):
    def assert_bad(self, part, boxes, blocks):
        with self.assertRaises(BadTable) as caught:
            Table(boxes, blocks)
        self.assertIs(type(caught.exception), BadTable)
        self.assertEqual(caught.exception.part, part)
        self.assertIs(type(caught.exception.part), type(part))

    def test_attributes(self):
        blocks = (((0, 1), 3), ((1, 2), 2))
        table = Table(3, blocks)
        self.assertEqual((table.boxes, table.blocks), (3, (((0, 1), 3), ((1, 2), 2))))
        self.assertIs(type(table.boxes), int)
        self.assertIs(type(table.blocks), tuple)

    def test_how_many_boxes(self):
        for boxes in (1, 2, 119, 120):
            self.assertEqual(Table(boxes, (BLOCK,)).boxes, boxes)
        for boxes in (*odd_things(), 0, -1, 121, 122, 10 ** 59, True, False, "3", (3,), [3], (0,)):
            self.assert_bad("boxes", boxes, (BLOCK,))

    def test_how_many_blocks(self):
        for many in (1, 2, 359, 360):
            self.assertEqual(Table(1, (BLOCK,) * many).blocks, (BLOCK,) * many)
        for blocks in ((), (BLOCK,) * 361, (BLOCK,) * 362, (BLOCK,) * 10000):
            self.assert_bad("blocks", 1, blocks)

    def test_blocks_are_a_tuple(self):
        odd = [thing for thing in odd_things() if type(thing) is not tuple]
        for blocks in (*odd, [BLOCK], [], {0: BLOCK}, iter((BLOCK,)), 1, Table(1, (BLOCK,))):
            self.assert_bad("blocks", 1, blocks)

    def test_the_first_thing_that_is_no_block(self):
        wrong = ((), 1)
        for many, at in ((1, 0), (2, 0), (2, 1), (3, 1), (360, 0), (360, 180), (360, 359)):
            blocks = [BLOCK] * many
            blocks[at] = wrong
            self.assert_bad(at, 1, tuple(blocks))
            self.assert_bad(at, 1, tuple(blocks[:at]) + (wrong,) * (many - at))

    def test_blocks_are_pairs_that_are_tuples(self):
        for thing in (*odd_things(), (), ((0,),), ((0,), 1, 1), [(0,), 1], ((0,), 1, None), (0,), 0, 1, (1, (0,)),
                      (((0,), 1),), ((0,), 1) * 2, {(0,): 1}, "01"):
            self.assert_bad(0, 3, (thing,))
            self.assert_bad(1, 3, (BLOCK, thing))

    def test_lots_of_blocks(self):
        for lot in ((0,), (2,), (0, 1), (0, 2), (0, 1, 2)):
            self.assertEqual(Table(3, ((lot, 1),)).blocks, ((lot, 1),))
        for lot in (*odd_things(), (), (3,), (0, 3), (0, 120), (1, 0), (0, 2, 1), (0, 0), (0, 1, 1), (-1, 0), (-1,),
                    (True,), (False,), (0, True), (False, 1), [0], [0, 1], 0, "0", ("0",), ((0,),), range(1), None):
            self.assert_bad(0, 3, ((lot, 1),))
            self.assert_bad(2, 3, (BLOCK, BLOCK, (lot, 1), BLOCK))

    def test_boxes_of_blocks_are_boxes_of_the_table(self):
        everything = tuple(range(120))
        self.assertEqual(Table(120, ((everything, 1),)).blocks, ((everything, 1),))
        self.assert_bad(0, 119, ((everything, 1),))
        for boxes in (1, 2, 50, 120):
            self.assertEqual(Table(boxes, (((boxes - 1,), 1),)).boxes, boxes)
            self.assert_bad(0, boxes, (((boxes,), 1),))

    def test_weights(self):
        for weight in (1, 2, 999999, 10 ** 6):
            self.assertEqual(Table(1, (((0,), weight),)).blocks, (((0,), weight),))
        for weight in (*odd_things(), 0, -1, 10 ** 6 + 1, 10 ** 7, 10 ** 59, True, False, "1", (1,), [1], None, ()):
            self.assert_bad(0, 1, (((0,), weight),))
            self.assert_bad(1, 1, (BLOCK, ((0,), weight)))

    def test_odd_things_in_lots(self):
        for thing in odd_things():
            self.assert_bad(0, 3, (((thing,), 1),))
            self.assert_bad(1, 3, (BLOCK, ((0, thing), 1)))

    def test_errors_in_the_order_named(self):
        self.assert_bad("boxes", 0, ())
        self.assert_bad("boxes", 121, [BLOCK])
        self.assert_bad("boxes", True, (None,))
        self.assert_bad("boxes", None, None)
        self.assert_bad("blocks", 1, (None,) * 361)
        self.assert_bad("blocks", 1, [None])
        self.assert_bad(0, 1, (None, None))
        self.assert_bad(1, 1, (BLOCK, None, None))

    def test_blocks_may_be_alike(self):
        blocks = (((0, 1), 5),) * 3
        self.assertEqual(Table(2, blocks).blocks, blocks)

    def test_equal_just_if_both_are(self):
        made = [(boxes, blocks) for boxes in (2, 3) for blocks in (
            (BLOCK,), (BLOCK, BLOCK), (((0,), 2),), (((1,), 1),), (((0, 1), 1),), (((0, 1), 1), BLOCK),
            (BLOCK, ((0, 1), 1)))]
        for one, other in itertools.product(made, repeat=2):
            self.assertIs(Table(*one) == Table(*other), one == other)
            self.assertIs(Table(*one) != Table(*other), one != other)

    def test_equal_to_no_other_kind(self):
        table = Table(3, (BLOCK,))
        lookalike = mock.Mock(boxes=3, blocks=(BLOCK,))
        for thing in (*odd_things(), (3, (BLOCK,)), 3, (BLOCK,), lookalike, mock.ANY):
            self.assertIs(table == thing, False)
            self.assertIs(table != thing, True)
        self.assertFalse(lookalike == table)
        self.assertFalse((3, (BLOCK,)) == table)


class TestLosses(unittest.TestCase):
    def test_lots_of_boxes_are_losses(self):
        table = Table(4, (BLOCK,))
        for loss in all_lots(4):
            self.assertIs(is_loss(table, loss), True)
        self.assertIs(is_loss(Table(120, (BLOCK,)), tuple(range(120))), True)
        self.assertIs(is_loss(Table(119, (BLOCK,)), tuple(range(120))), False)

    def test_what_is_no_loss(self):
        for boxes in (1, 2, 4):
            table = Table(boxes, (BLOCK,))
            for thing in [*odd_things(), [], [0], (boxes,), (0, boxes), (0, 120), (-1,), (1, 0), (0, 0), (True,),
                          (False,), 0, 1, "", range(1), {}, None]:
                self.assertIs(is_loss(table, thing), False)
                self.assert_no_loss(table, thing)

    def test_odd_things_in_a_loss(self):
        table = Table(4, (BLOCK,))
        for thing in odd_things():
            for loss in ((thing,), (0, thing), (thing, 1), (0, 1, thing)):
                self.assertIs(is_loss(table, loss), False)
                self.assert_no_loss(table, loss)

    def assert_no_loss(self, table, thing):
        with self.assertRaises(NoLoss) as caught:
            gone(table, thing)
        self.assertIs(type(caught.exception), NoLoss)

    def test_gone_behind_all_lots(self):
        lots = [lot for lot in all_lots(4) if lot]
        table = Table(5, tuple([(lot, 1 + at) for at, lot in enumerate(lots)]))
        for loss in all_lots(5):
            right = tuple([at for at, lot in enumerate(lots) if set(lot) <= set(loss)])
            found = gone(table, loss)
            self.assertEqual(found, right)
            self.assertIs(type(found), tuple)

    def test_gone_at_the_edges(self):
        table = Table(3, (((0, 1), 3), ((1, 2), 2)))
        self.assertEqual(gone(table, ()), ())
        self.assertEqual(gone(table, (0, 2)), ())
        self.assertEqual(gone(table, (0, 1)), (0,))
        self.assertEqual(gone(table, (0, 1, 2)), (0, 1))

    def test_the_example(self):
        self.assertEqual(gone(Table(3, (((0, 1), 3), ((1, 2), 2))), (1, 2)), (1,))

    def test_the_largest_table(self):
        table = Table(120, tuple([((at % 120,), 10 ** 6) for at in range(360)]))
        self.assertEqual(gone(table, (0, 119)), (0, 119, 120, 239, 240, 359))
        self.assertEqual(gone(table, tuple(range(120))), tuple(range(360)))


class TestNothingChanges(unittest.TestCase):
    def test_tables_and_losses_stay_as_they_are(self):
        blocks = (((0, 1), 3), ((1, 2), 2))
        table = Table(3, blocks)
        loss = (0, 1)
        is_loss(table, loss)
        gone(table, loss)
        self.assertEqual(loss, (0, 1))
        self.assertEqual(blocks, (((0, 1), 3), ((1, 2), 2)))
        self.assertEqual((table.boxes, table.blocks), (3, blocks))
        self.assertEqual(vars(table), vars(Table(3, blocks)))

    def test_wrong_arguments_stay_as_they_are(self):
        things = plain_things()
        kept = copies_of(things)
        table = Table(3, (BLOCK,))
        for thing in things:
            is_loss(table, thing)
            for call in ((gone, table, thing), (Table, thing, thing), (Table, 3, thing), (Table, 3, (thing,))):
                with self.assertRaises((BadTable, NoLoss)):
                    call[0](*call[1:])
        self.assertEqual(things, kept)


class TestInterface(unittest.TestCase):
    def test_names_are_defined_here(self):
        for name in ("Table", "is_loss", "gone"):
            self.assertEqual(getattr(tables, name).__module__, "roundcopies.tables")
        self.assertIn("__eq__", vars(Table))


if __name__ == "__main__":
    unittest.main()
