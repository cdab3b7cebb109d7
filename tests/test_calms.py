"""The calm of layouts and tables, against all losses gone through."""

import itertools
import random
import unittest
from fractions import Fraction

from brute import adder, all_lots, calm_by_losses, laid, least_by_boxes, random_blocks, random_kinds, rounded_up
from odd import copies_of, odd_things, plain_things
from roundcopies import calms
from roundcopies.calms import (calm, calm_of_table, calm_whole, is_worst_cluster, is_worst_loss, worst_cluster,
                               worst_loss)
from roundcopies.errors import NoNumber, TooMany
from roundcopies.layouts import Layout, copies, table_of
from roundcopies.sharings import least_load, least_whole
from roundcopies.sheets import Sheet, closed_lots
from roundcopies.tables import Table

RING = Sheet((8,))
PAIRS = Layout(RING, (((0, 4), 1),))
SMALL = ((1,), (2,), (3,), (4,), (5,), (6,), (7,), (8,), (1, 3), (2, 2), (2, 3), (3, 2), (2, 4), (4, 2), (2, 2, 2),
         (1, 2, 3))
ALL = (calm, calm_whole, worst_cluster, worst_loss)
JUDGES = (is_worst_cluster, is_worst_loss)


def told(fraction):
    """A fraction as the program tells it."""
    return (fraction.numerator, fraction.denominator)


def value(moduli, kinds, f, cluster):
    """The fraction of a cluster, by the words of the document."""
    sums = adder(moduli)
    blocks = laid(moduli, kinds)
    lot, chosen = cluster
    held = {block - block % len(sums) + sums[block % len(sums)][place] for block in chosen for place in lot}
    boxes = set().union(*[blocks[block][0] for block in held])
    return Fraction(sum([blocks[block][1] for block in held]), len(boxes) - f)


def all_clusters(moduli, many):
    """All clusters of so many kinds."""
    places = len(adder(moduli))
    lots = closed_lots(Sheet(moduli))
    blocks = [lot for lot in itertools.product((None, *range(places)), repeat=many) if set(lot) != {None}]
    chosen = [tuple([kind * places + at for kind, at in enumerate(lot) if at is not None]) for lot in blocks]
    return list(itertools.product(lots, chosen))


def is_closed_here(moduli, lot):
    """Whether a lot is closed, by the words of the document."""
    sums = adder(moduli)
    return 0 in lot and all([sums[one][other] in lot for one in lot for other in lot])


def is_cluster_here(moduli, kinds, thing):
    """Whether a thing is a cluster, by the words of the document."""
    places = len(adder(moduli))
    lot, blocks = thing
    if type(thing) is not tuple or type(lot) is not tuple or type(blocks) is not tuple:
        return False
    if list(lot) != sorted(set(lot)) or list(blocks) != sorted(set(blocks)) or not blocks:
        return False
    if not all([block in range(len(kinds) * places) for block in blocks]):
        return False
    return is_closed_here(moduli, lot) and len({block // places for block in blocks}) == len(blocks)


class TestLayouts(unittest.TestCase):
    def assert_right(self, moduli, kinds):
        """All that is told at each f, against all losses of f boxes."""
        layout = Layout(Sheet(moduli), kinds)
        blocks = laid(moduli, kinds)
        boxes = len(adder(moduli))
        for f in range(min([len(steps) for steps, _ in kinds])):
            right = calm_by_losses(boxes, blocks, f)
            self.assertEqual(calm(layout, f), told(right), (moduli, kinds, f))
            if boxes <= 5:
                self.assertEqual(max([least_by_boxes(blocks, loss) for loss in all_lots(boxes) if len(loss) == f]), right)
            self.assertEqual(calm_whole(layout, f), rounded_up(right))
            cluster = worst_cluster(layout, f)
            self.assertTrue(is_cluster_here(moduli, kinds, cluster), cluster)
            self.assertEqual(value(moduli, kinds, f, cluster), right)
            self.assertIs(is_worst_cluster(layout, f, cluster), True)
            loss = worst_loss(layout, f)
            self.assertEqual((type(loss), len(loss), list(loss)), (tuple, f, sorted(set(loss))))
            self.assertEqual(least_by_boxes(blocks, loss), right)
            self.assertIs(is_worst_loss(layout, f, loss), True)
            if boxes <= 12:
                self.assertEqual(calm_of_table(table_of(layout), f), told(right))

    def test_one_kind_on_all_small_sheets(self):
        chance = random.Random(30)
        for moduli in SMALL:
            lots = [lot for lot in all_lots(len(adder(moduli))) if 1 <= len(lot) <= 8]
            for steps in chance.sample(lots, min(8, len(lots))):
                self.assert_right(moduli, ((steps, chance.randint(1, 4)),))

    def test_one_kind_with_closed_lots_as_steps(self):
        for moduli in SMALL:
            for lot in closed_lots(Sheet(moduli)):
                if len(lot) <= 8:
                    self.assert_right(moduli, ((lot, 3),))

    def test_two_kinds(self):
        chance = random.Random(31)
        for moduli in SMALL:
            for _ in range(4):
                places = len(adder(moduli))
                self.assert_right(moduli, random_kinds(chance, places, 2, chance.choice((1, 9)), 1, 4))

    def test_three_kinds(self):
        chance = random.Random(32)
        for moduli in SMALL:
            for _ in range(3):
                places = len(adder(moduli))
                self.assert_right(moduli, random_kinds(chance, places, 3, chance.choice((1, 9)), 2, 4))

    def test_kinds_whose_blocks_lie_apart(self):
        # The worst cluster has blocks of both kinds, at places that are not the same.
        for moduli, kinds in (((7,), (((0, 1), 1), ((3, 4), 1))), ((8,), (((0, 4), 2), ((1, 5), 2), ((0, 1, 2), 1))),
                              ((2, 4), (((0, 1), 3), ((6, 7), 3))), ((9,), (((0, 3, 6), 2), ((1, 4, 7), 2)))):
            self.assert_right(moduli, kinds)

    def test_weights_up_to_the_greatest(self):
        for kinds in ((((0, 4), 10 ** 6),), (((0, 4), 10 ** 6), ((0, 1, 3), 999999)), (((0, 1, 2), 1), ((0, 3), 10 ** 6))):
            self.assert_right((8,), kinds)

    def test_a_few_sheets_of_nine_and_ten_places(self):
        chance = random.Random(33)
        for moduli in ((9,), (3, 3), (10,)):
            self.assert_right(moduli, random_kinds(chance, len(adder(moduli)), 2, 5, 2, 3))

    def test_the_examples(self):
        self.assertEqual(calm(PAIRS, 1), (2, 1))
        self.assertEqual(calm(Layout(RING, (((0, 1, 4, 5), 1),)), 3), (2, 1))
        self.assertEqual(calm(Layout(RING, (((0, 1), 1),)), 1), (8, 7))

    def test_answers_are_of_the_told_kinds(self):
        self.assertEqual([type(part) for part in calm(PAIRS, 1)], [int, int])
        self.assertIs(type(calm(PAIRS, 1)), tuple)
        self.assertIs(type(calm_whole(PAIRS, 1)), int)
        self.assertEqual(calm_whole(Layout(RING, (((0, 1), 1),)), 1), 2)
        self.assertEqual(calm_whole(PAIRS, 0), 1)


class TestOneKindOnGreatSheets(unittest.TestCase):
    def test_by_the_closed_lots(self):
        chance = random.Random(34)
        for moduli in ((120,), (97,), (64,), (10, 12), (8, 8), (3, 6, 6), (4, 4, 4), (2, 6, 10), (16,), (1, 60)):
            sheet = Sheet(moduli)
            sums = adder(moduli)
            lots = closed_lots(sheet)
            steps_told = [random_kinds(chance, sheet.places, 1, 9)[0] for _ in range(3)]
            steps_told += [(lot, 5) for lot in lots if 2 <= len(lot) <= 8][:3]
            for steps, weight in steps_told:
                layout = Layout(sheet, ((steps, weight),))
                for f in sorted({0, len(steps) // 2, len(steps) - 1}):
                    right = max([
                        Fraction(weight * len(lot), len({min([sums[step][one] for one in lot]) for step in steps})
                                 * len(lot) - f) for lot in lots
                    ])
                    self.assertEqual(calm(layout, f), told(right))
                    loss = worst_loss(layout, f)
                    self.assertEqual((len(loss), list(loss)), (f, sorted(set(loss))))
                    self.assertEqual(least_load(table_of(layout), loss), told(right))

    def test_three_kinds_on_great_sheets(self):
        chance = random.Random(35)
        for moduli in ((120,), (10, 12), (3, 6, 6), (2, 6, 10)):
            kinds = random_kinds(chance, len(adder(moduli)), 3, 20, 3)
            layout = Layout(Sheet(moduli), kinds)
            f = copies(layout) - 1
            cluster = worst_cluster(layout, f)
            self.assertTrue(is_cluster_here(moduli, kinds, cluster))
            self.assertEqual(told(value(moduli, kinds, f, cluster)), calm(layout, f))
            self.assertEqual(least_load(table_of(layout), worst_loss(layout, f)), calm(layout, f))
            for _ in range(6):
                loss = tuple(sorted(chance.sample(range(layout.sheet.places), f)))
                self.assertTrue(Fraction(*least_load(table_of(layout), loss)) <= Fraction(*calm(layout, f)))
                self.assertTrue(least_whole(table_of(layout), loss) <= calm_whole(layout, f))


class TestIsWorstCluster(unittest.TestCase):
    def test_all_clusters(self):
        for moduli, kinds in (((4,), (((0, 1), 1),)), ((6,), (((0, 3), 2), ((0, 1, 2), 1))), ((2, 2), (((0, 1), 1),) * 2),
                              ((5,), (((0, 1), 2), ((0, 2), 2))), ((4,), (((0, 2), 1), ((1, 3), 1), ((0, 1), 1)))):
            layout = Layout(Sheet(moduli), kinds)
            for f in range(copies(layout)):
                most = calm_by_losses(len(adder(moduli)), laid(moduli, kinds), f)
                found = {True: 0, False: 0}
                for cluster in all_clusters(moduli, len(kinds)):
                    right = value(moduli, kinds, f, cluster) == most
                    found[right] += 1
                    self.assertIs(is_worst_cluster(layout, f, cluster), right, (moduli, kinds, f, cluster))
                self.assertTrue(found[True] > 0)

    def test_other_things(self):
        layout = Layout(RING, (((0, 4), 1), ((0, 4), 1)))
        self.assertIs(is_worst_cluster(layout, 1, ((0, 4), (0, 8))), True)
        for thing in (*odd_things(), (), ((0, 4),), ((0, 4), (0, 8), 1), [(0, 4), (0, 8)], ([0, 4], (0, 8)),
                      ((0, 4), [0, 8]), ((0, 4), (8, 0)), ((0, 4), ()), ((0, 4), (0, 4)), ((0, 4), (0, 0)),
                      ((0, 4), (0, 4, 8)), ((0, 4), (0, 8, 12)), ((0, 3), (0, 8)), ((4,), (0, 8)), ((), (0, 8)),
                      ((4, 0), (0, 8)), ((0, 0, 4), (0, 8)), ((0, 8), (0, 8)), ((0, 4, 8), (0, 8)), ((0, 4), (0, 16)),
                      ((0, 4), (-8, 0)), ((0, 4), (False, 8)), ((False, 4), (0, 8)), ((0, 4), 0), ((0, 4), None),
                      (0, (0, 8)), ((0, 8), (0, 4)), ((0, 4), (0, 9)), ((0, 4), ((0, 8),)), "ab", {0: 1, 1: 2}):
            self.assertIs(is_worst_cluster(layout, 1, thing), False, repr(thing)[:60])
        for f, lot in itertools.product((0, 1), ((0,), (0, 4), tuple(range(8)))):
            self.assertIs(is_worst_cluster(layout, f, (lot, ())), False)
        for thing in odd_things():
            for cluster in ((thing, (0, 8)), ((0, 4), thing), ((0, thing), (0, 8)), ((0, 4), (thing,)),
                            ((0, 4), (0, thing))):
                self.assertIs(is_worst_cluster(layout, 1, cluster), False)

    def test_other_blocks_of_the_same_kinds(self):
        layout = Layout(RING, (((0, 4), 1), ((0, 4), 1)))
        for one, other in itertools.product(range(8), range(8, 16)):
            self.assertIs(is_worst_cluster(layout, 1, ((0, 4), (one, other))), (other - one) % 4 == 0)
            self.assertIs(is_worst_cluster(layout, 1, ((0,), (one, other))), False)
        for one in range(16):
            self.assertIs(is_worst_cluster(layout, 1, ((0, 4), (one,))), False)


class TestIsWorstLoss(unittest.TestCase):
    def test_all_lots(self):
        chance = random.Random(36)
        for moduli in ((4,), (6,), (2, 3), (2, 2), (7,)):
            for many in (1, 2):
                places = len(adder(moduli))
                kinds = random_kinds(chance, places, many, 3, 2, 4)
                layout = Layout(Sheet(moduli), kinds)
                blocks = laid(moduli, kinds)
                for f in range(copies(layout)):
                    most = calm_by_losses(places, blocks, f)
                    for loss in all_lots(places):
                        right = len(loss) == f and least_by_boxes(blocks, loss) == most
                        self.assertIs(is_worst_loss(layout, f, loss), right)

    def test_other_things(self):
        layout = Layout(RING, (((0, 1, 4), 1),))
        for f in (0, 1, 2):
            for thing in (*odd_things(), [], [0], [0, 1], (8,), (0, 8), (-1,), (-1, 0), (1, 0), (0, 0), (0, 1, 2), 0, 1,
                          "0", range(f), (True,), (False,), (0, True), (False, 1), None, {}, ((0,),), ((), ())):
                self.assertIs(is_worst_loss(layout, f, thing), False, repr(thing)[:60])
            for thing in odd_things():
                self.assertIs(is_worst_loss(layout, f, (thing,)), False)
                self.assertIs(is_worst_loss(layout, f, (0, thing)), False)
        self.assertIs(is_worst_loss(layout, 0, ()), True)
        self.assertIs(is_worst_loss(layout, 1, ()), False)


class TestCalmOfTable(unittest.TestCase):
    def test_tables_of_no_layout(self):
        chance = random.Random(37)
        for _ in range(60):
            boxes = chance.randint(1, 7)
            blocks = random_blocks(chance, boxes, chance.randint(1, 12), boxes, chance.choice((1, 5, 10 ** 6)))
            for f in range(min([len(lot) for lot, _ in blocks])):
                right = calm_by_losses(boxes, blocks, f)
                found = calm_of_table(Table(boxes, blocks), f)
                self.assertEqual(found, told(right))
                self.assertEqual([type(found), type(found[0]), type(found[1])], [tuple, int, int])

    def test_tables_whose_blocks_have_several_boxes(self):
        chance = random.Random(38)
        for _ in range(25):
            boxes = chance.randint(3, 7)
            blocks = tuple([
                (tuple(sorted(chance.sample(range(boxes), chance.randint(3, boxes)))), chance.randint(1, 9))
                for _ in range(chance.randint(1, 10))
            ])
            for f in range(min([len(lot) for lot, _ in blocks])):
                self.assertEqual(calm_of_table(Table(boxes, blocks), f), told(calm_by_losses(boxes, blocks, f)))

    def test_tables_of_12_boxes(self):
        chance = random.Random(39)
        everything = tuple(range(12))
        self.assertEqual(calm_of_table(Table(12, ((everything, 10 ** 6),) * 360), 11), (36 * 10 ** 7, 1))
        blocks = tuple([(tuple(sorted(chance.sample(range(12), 4))), chance.randint(1, 99)) for _ in range(360)])
        table = Table(12, blocks)
        for f in (1, 3):
            found = Fraction(*calm_of_table(table, f))
            losses = list(itertools.combinations(range(12), f))
            self.assertEqual(max([Fraction(*least_load(table, loss)) for loss in losses]), found)

    def test_too_many_boxes(self):
        for boxes in (12, 13, 14, 120):
            table = Table(boxes, (((0, 1, 2), 1),))
            if boxes == 12:
                self.assertEqual(calm_of_table(table, 2), (1, 1))
                continue
            for f in (0, 2):
                with self.assertRaises(TooMany) as caught:
                    calm_of_table(table, f)
                self.assertIs(type(caught.exception), TooMany)
                self.assertEqual(caught.exception.most, 12)

    def test_no_number_ahead_of_too_many(self):
        for boxes in (3, 12, 13, 120):
            table = Table(boxes, (((0, 1, 2), 1), ((0, 1), 1)))
            for f in (*odd_things(), 2, 3, 12, 13, -1, 10 ** 59, True, False, "1", (1,), [0], None):
                with self.assertRaises(NoNumber) as caught:
                    calm_of_table(table, f)
                self.assertIs(type(caught.exception), NoNumber)


class TestErrors(unittest.TestCase):
    def assert_no_number(self, layout, f):
        for call in [(one, layout, f) for one in ALL] + [(one, layout, f, thing) for one in JUDGES for thing in
                                                         (None, (), ((0, 4), (0,)))]:
            with self.assertRaises(NoNumber) as caught:
                call[0](*call[1:])
            self.assertIs(type(caught.exception), NoNumber)

    def test_no_number(self):
        for f in (*odd_things(), -1, 2, 3, 8, 10 ** 59, True, False, "0", "1", (0,), (1,), [1], None, {}):
            self.assert_no_number(PAIRS, f)

    def test_below_the_fewest_copies(self):
        for kinds in ((((0,), 1),), (((0, 1), 1), ((0,), 1)), (((0, 1, 2), 1), ((0, 3), 2), ((0, 1, 2, 3), 1))):
            layout = Layout(RING, kinds)
            most = min([len(steps) for steps, _ in kinds])
            for f in range(most):
                self.assertTrue(calm(layout, f)[0] > 0)
            for f in (most, most + 1, 8):
                self.assert_no_number(layout, f)


class TestNothingChanges(unittest.TestCase):
    def test_arguments_stay_as_they_are(self):
        kinds = (((0, 1, 4), 2), ((0, 2), 3))
        one, other = Layout(Sheet((8,)), kinds), Layout(Sheet((8,)), kinds)
        for call in ALL:
            self.assertEqual(call(one, 1), call(other, 1))
        is_worst_cluster(one, 1, worst_cluster(one, 1))
        is_worst_loss(one, 1, worst_loss(one, 1))
        self.assertEqual(vars(one), {"sheet": Sheet((8,)), "kinds": kinds})
        table = table_of(one)
        self.assertEqual(calm_of_table(table, 1), calm_of_table(table_of(other), 1))
        self.assertEqual(vars(table), vars(table_of(other)))

    def test_wrong_arguments_stay_as_they_are(self):
        things = plain_things()
        kept = copies_of(things)
        for thing in things:
            is_worst_cluster(PAIRS, 1, thing)
            is_worst_loss(PAIRS, 1, thing)
            for call in (*ALL, calm_of_table):
                with self.assertRaises(NoNumber):
                    call(table_of(PAIRS) if call is calm_of_table else PAIRS, thing)
        self.assertEqual(things, kept)


class TestInterface(unittest.TestCase):
    def test_names_are_defined_here(self):
        for name in ("calm", "calm_of_table", "calm_whole", "worst_cluster", "worst_loss", "is_worst_cluster",
                     "is_worst_loss"):
            self.assertEqual(getattr(calms, name).__module__, "roundcopies.calms")


if __name__ == "__main__":
    unittest.main()
