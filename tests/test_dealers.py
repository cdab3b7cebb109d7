"""Dealers judged for all losses."""

import random
import unittest
from fractions import Fraction

from brute import all_lots, is_right_sharing, laid, least_by_boxes, load, random_blocks, random_kinds, rounded_up
from odd import copies_of, odd_things, plain_things
from roundcopies import dealers
from roundcopies.dealers import judged_dealer
from roundcopies.errors import NoFraction, NoNumber, TooMany
from roundcopies.sharings import sharing, whole_sharing
from roundcopies.tables import Table

TOLD = Table(3, (((0, 1), 3), ((1, 2), 2)))


def losses_to(boxes, many):
    """All losses of at most so many boxes, fewest first."""
    return [loss for loss in all_lots(boxes) if len(loss) <= many]


class Recorder:
    """A dealer that notes what it is called with, and deals as told, otherwise at some losses."""

    def __init__(self, table, deal, others=()):
        self.table = table
        self.deal = deal
        self.others = dict(others)
        self.called = []

    def __call__(self, loss):
        self.called.append(loss)
        if loss in self.others:
            return self.others[loss]
        return self.deal(self.table, loss)


class TestRightDealers(unittest.TestCase):
    def assert_bound(self, table, many, deal, bound):
        """None at the bound, called once for each loss in the order; a load too great just below it."""
        losses = losses_to(table.boxes, many)
        dealer = Recorder(table, deal)
        self.assertIsNone(judged_dealer(table, many, bound.numerator, bound.denominator, dealer))
        self.assertEqual(dealer.called, losses)
        self.assertTrue(all([type(loss) is tuple for loss in dealer.called]))
        self.assertIsNone(judged_dealer(table, many, 3 * bound.numerator, 3 * bound.denominator, dealer))
        self.assertIsNone(judged_dealer(table, many, bound.numerator + 1, bound.denominator, dealer))
        if bound:
            lower = bound - Fraction(1, 10 ** 9)
            first = [loss for loss in losses if load(table.boxes, table.blocks, deal(table, loss)) > lower][0]
            dealer = Recorder(table, deal)
            found = judged_dealer(table, many, lower.numerator, lower.denominator, dealer)
            self.assertEqual(found, (first, "load"))
            self.assertEqual((type(found), type(found[0])), (tuple, tuple))
            self.assertEqual(dealer.called, losses[:losses.index(first) + 1])

    def test_own_sharings_at_the_greatest_of_all_least_loads(self):
        chance = random.Random(90)
        gone = 0
        for _ in range(40):
            boxes = chance.randint(1, 6)
            table = Table(boxes, random_blocks(chance, boxes, chance.randint(1, 8), 3, chance.choice((1, 5, 10 ** 6))))
            for many in range(boxes + 1):
                loads = [least_by_boxes(table.blocks, loss) for loss in losses_to(boxes, many)]
                gone += many >= min([len(lot) for lot, _ in table.blocks])
                self.assert_bound(table, many, sharing, max(loads))
                self.assert_bound(table, many, whole_sharing, Fraction(max([rounded_up(one) for one in loads])))
        self.assertGreater(gone, 40)

    def test_layouts(self):
        chance = random.Random(91)
        for moduli in ((5,), (2, 3), (7,)):
            blocks = laid(moduli, random_kinds(chance, len(laid(moduli, (((0,), 1),))), 2, 4, 2, 3))
            boxes = len(blocks) // 2
            table = Table(boxes, blocks)
            for many in (0, 1, 2):
                loads = [least_by_boxes(blocks, loss) for loss in losses_to(boxes, many)]
                self.assert_bound(table, many, sharing, max(loads))

    def test_no_boxes_and_all_boxes(self):
        for table in (TOLD, Table(1, (((0,), 7),)), Table(12, (((0, 11), 4), ((3,), 4)))):
            dealer = Recorder(table, whole_sharing)
            self.assertIsNone(judged_dealer(table, 0, 7, 1, dealer))
            self.assertEqual(dealer.called, [()])
            dealer = Recorder(table, sharing)
            self.assertIsNone(judged_dealer(table, table.boxes, 10 ** 30, 10 ** 24, dealer))
            self.assertEqual(dealer.called, all_lots(table.boxes))

    def test_a_sharing_of_many_parts_that_is_not_the_least(self):
        table = Table(2, (((0, 1), 1),))
        dealt = {(): (10 ** 40, {0: (3 * 10 ** 39, 7 * 10 ** 39)}), (0,): (2, {0: (0, 2)}), (1,): (1, {0: (1, 0)})}
        dealer = Recorder(table, sharing, dealt)
        self.assertIsNone(judged_dealer(table, 1, 1, 1, dealer))
        self.assertIsNone(judged_dealer(table, 0, 7, 10, dealer))
        self.assertEqual(judged_dealer(table, 0, 69, 100, dealer), ((), "load"))
        self.assertEqual(judged_dealer(table, 1, 7, 10, dealer), ((0,), "load"))

    def test_nothing_is_dealt(self):
        table = Table(1, (((0,), 7),))
        self.assertIsNone(judged_dealer(table, 1, 7, 1, Recorder(table, sharing)))
        self.assertEqual(judged_dealer(table, 1, 0, 1, Recorder(table, sharing)), ((), "load"))
        others = {(): (1, {0: (7,)}), (0,): (1, {0: (0,)})}
        self.assertEqual(judged_dealer(table, 1, 7, 1, Recorder(table, sharing, others)), ((0,), "sharing"))


class TestWrongDealers(unittest.TestCase):
    def assert_first(self, table, many, others, found, bound=(10 ** 9, 1)):
        """The first wrong loss, behind which the dealer is not called again."""
        dealer = Recorder(table, sharing, others)
        self.assertEqual(judged_dealer(table, many, bound[0], bound[1], dealer), found)
        losses = losses_to(table.boxes, many)
        self.assertEqual(dealer.called, losses[:losses.index(found[0]) + 1] if found else losses)

    def test_what_is_no_sharing(self):
        for loss in all_lots(3):
            right = whole_sharing(TOLD, loss)
            wrong = [*odd_things(), right[1], list(right), (0, right[1]), (True, right[1]), (1, {**right[1], 7: ()}),
                     (*right, 0), (2, {number: row for number, row in right[1].items()}) if right[1] else (0, {}),
                     (1, {number: list(row) for number, row in right[1].items()}) if right[1] else (1, []),
                     (1, list(right[1].values()))]
            for thing in wrong:
                self.assertFalse(is_right_sharing(3, TOLD.blocks, loss, thing))
                self.assert_first(TOLD, 3, {loss: thing}, (loss, "sharing"))

    def test_a_row_otherwise(self):
        for loss in ((), (0,), (1,), (2,)):
            rows = whole_sharing(TOLD, loss)[1]
            for number, row in rows.items():
                for wrong in ((row[0] + 1, row[1]), (row[0] + 1, row[1] - 1), (row[1], row[0]), (row[0],), (*row, 0),
                              (5, -2), None, (True, row[1]), "12", {0: 1}):
                    thing = (1, {**rows, number: wrong})
                    if not is_right_sharing(3, TOLD.blocks, loss, thing):
                        self.assert_first(TOLD, 1, {loss: thing}, (loss, "sharing"))

    def test_a_sharing_behind_another_loss(self):
        lots = all_lots(3)
        seen = 0
        for loss in lots:
            for other in lots:
                thing = sharing(TOLD, other)
                if not is_right_sharing(3, TOLD.blocks, loss, thing):
                    self.assert_first(TOLD, 3, {loss: thing}, (loss, "sharing"))
                    seen += 1
        self.assertGreater(seen, 20)

    def test_a_load_too_great(self):
        order = all_lots(3)
        for loss, thing in (((), (1, {0: (0, 3), 1: (2, 0)})), ((0,), (2, {0: (0, 6), 1: (4, 0)})),
                            ((2,), (10 ** 30, {0: (0, 3 * 10 ** 30), 1: (2 * 10 ** 30, 0)}))):
            self.assertEqual(load(3, TOLD.blocks, thing), 5)
            later = {other: None for other in order[order.index(loss) + 1:]}
            self.assert_first(TOLD, 3, {**later, loss: thing}, (loss, "load"), (499, 100))
            self.assert_first(TOLD, 3, {**later, loss: thing}, (loss, "load"), (5 * 10 ** 29 - 1, 10 ** 29))
            self.assert_first(TOLD, len(loss), {loss: thing}, None, (5, 1))

    def test_the_first_of_several(self):
        self.assert_first(TOLD, 3, {(2,): None, (0, 1): None}, ((2,), "sharing"))
        self.assert_first(TOLD, 3, {(1, 2): None, (0, 1): None}, ((0, 1), "sharing"))
        self.assert_first(TOLD, 3, {(0, 1, 2): None, (1, 2): None}, ((1, 2), "sharing"))
        self.assert_first(TOLD, 3, {(2,): (1, {0: (0, 3), 1: (2, 0)}), (0,): None}, ((0,), "sharing"))
        self.assert_first(TOLD, 3, {(0,): (1, {0: (0, 3), 1: (2, 0)}), (2,): None}, ((0,), "load"), (4, 1))
        self.assert_first(TOLD, 1, {(0, 1): None}, None)
        self.assert_first(TOLD, 2, {(0, 1, 2): None}, None)

    def test_errors_of_the_dealer_go_on(self):
        for error in (ValueError("x"), KeyError(1), ZeroDivisionError(), TypeError("y"), NoNumber(), NoFraction(),
                      StopIteration(), LookupError(), RuntimeError()):
            called = []

            def dealer(loss):
                called.append(loss)
                if len(called) == 3:
                    raise error
                return sharing(TOLD, loss)
            with self.assertRaises(type(error)) as caught:
                judged_dealer(TOLD, 3, 10, 1, dealer)
            self.assertIs(caught.exception, error)
            self.assertEqual(called, [(), (0,), (1,)])


class TestErrors(unittest.TestCase):
    def assert_raises(self, error, table, many, top, bottom):
        called = []
        with self.assertRaises(error) as caught:
            judged_dealer(table, many, top, bottom, called.append)
        self.assertIs(type(caught.exception), error)
        self.assertEqual(called, [])
        if error is TooMany:
            self.assertEqual(caught.exception.most, 12)

    def test_no_number(self):
        for boxes in (1, 3, 12, 13, 120):
            table = Table(boxes, (((0,), 1),))
            for many in (*odd_things(), -1, boxes + 1, 121, 10 ** 59, True, "1", (1,), [1], ()):
                for top, bottom in ((5, 1), (-1, 0), (None, None)):
                    self.assert_raises(NoNumber, table, many, top, bottom)

    def test_no_fraction(self):
        for boxes in (3, 13):
            table = Table(boxes, (((0,), 1),))
            for many in (0, boxes):
                for thing in (*odd_things(), -1, 10 ** 30 + 1, True, False, "1", (1, 1), [1]):
                    self.assert_raises(NoFraction, table, many, thing, 1)
                    self.assert_raises(NoFraction, table, many, 1, thing)
                    self.assert_raises(NoFraction, table, many, thing, thing)
                self.assert_raises(NoFraction, table, many, 1, 0)
                self.assert_raises(NoFraction, table, many, 0, 0)

    def test_too_many(self):
        for boxes in (13, 14, 120):
            for many in (0, 1, 13, boxes):
                self.assert_raises(TooMany, Table(boxes, (((0,), 1),)), many, 1, 1)

    def test_twelve_boxes_and_great_fractions(self):
        table = Table(12, (((0, 4), 5), ((11,), 10 ** 6)))
        for many in (0, 1, 12):
            dealer = Recorder(table, whole_sharing)
            self.assertIsNone(judged_dealer(table, many, 10 ** 30, 1, dealer))
            self.assertEqual(dealer.called, losses_to(12, many))
        self.assertEqual(judged_dealer(table, 1, 10 ** 30, 10 ** 30, Recorder(table, sharing)), ((), "load"))
        self.assertEqual(judged_dealer(table, 0, 0, 10 ** 30, Recorder(table, sharing)), ((), "load"))


class TestNothingChanges(unittest.TestCase):
    def test_arguments_stay_as_they_are(self):
        table = Table(3, TOLD.blocks)
        kept = {loss: sharing(TOLD, loss) for loss in all_lots(3)}
        own = copies_of(kept)
        self.assertIsNone(judged_dealer(table, 3, 5, 1, lambda loss: kept[loss]))
        self.assertEqual((kept, vars(table)), (own, vars(TOLD)))
        things = plain_things()
        before = copies_of(things)
        for thing in things:
            self.assertEqual(judged_dealer(TOLD, 3, 5, 1, lambda loss: thing), ((), "sharing"))
        self.assertEqual(things, before)

    def test_the_name_is_defined_here(self):
        self.assertEqual(dealers.judged_dealer.__module__, "roundcopies.dealers")


if __name__ == "__main__":
    unittest.main()
