"""Moves from one whole sharing to another, against all that there are."""

import itertools
import random
import unittest

from brute import (all_lots, is_right_sharing, laid, least_by_boxes, left, load, loads, random_blocks, random_kinds,
                   rounded_up, whole_sharings)
from odd import copies_of, odd_things, plain_things
from roundcopies import moves
from roundcopies.errors import NoLoss, NoSharing, TooMany
from roundcopies.moves import fewest_moved, least_moves, moved
from roundcopies.sharings import least_whole, whole_sharing
from roundcopies.tables import Table

TOLD = Table(3, (((0, 1), 3), ((1, 2), 2)))
AHEAD = (1, {0: (2, 1), 1: (1, 1)})
WRONG_LOSSES = ([], [0], (3,), (0, 3), (1, 0), (0, 0), (-1,), (True,), (False, 1), 0, None, "0", {}, range(1))


def moved_here(ahead, then):
    """How many asks are moved, by the words of the document."""
    found = 0
    for number in set(ahead[1]) & set(then[1]):
        for one, other in zip(ahead[1][number], then[1][number]):
            found += other - one if other > one else 0
    return found


def dealt_by_chance(chance, blocks, loss):
    """A whole sharing by chance, its loads as they come."""
    rows = {}
    for number, lot in left(blocks, loss).items():
        row = dict.fromkeys(blocks[number][0], 0)
        for _ in range(blocks[number][1]):
            row[chance.choice(sorted(lot))] += 1
        rows[number] = tuple(row.values())
    return (1, rows)


def exchanges(blocks, loss, ahead, then):
    """What it costs at least to move one ask from a box to another one: a dict from pairs of boxes."""
    found = {}
    for number, row in then[1].items():
        lot = blocks[number][0]
        before = ahead[1].get(number)
        for one, other in itertools.permutations(range(len(lot)), 2):
            if row[one] > 0 and lot[other] not in loss:
                cost = 0
                if before is not None:
                    cost = (0 if row[other] < before[other] else 1) - (1 if row[one] > before[one] else 0)
                pair = (lot[one], lot[other])
                found[pair] = min(cost, found.get(pair, cost))
    return found


def can_be_fewer(boxes, blocks, loss, ahead, then, most):
    """Whether asks can be exchanged, none of the loads above most, so that fewer are moved in all.

    Single asks are moved on from box to box: round, or from a box to one whose
    load is below most. A way round whose cost is below 0 is sought.
    """
    arcs = exchanges(blocks, loss, ahead, then)
    full = loads(boxes, blocks, then[1])
    for box in range(boxes):
        if full[box] < most:
            arcs[(box, boxes)] = 0
        arcs[(boxes, box)] = 0
    costs = [0] * (boxes + 1)
    for _ in range(boxes + 1):
        changed = False
        for (one, other), cost in arcs.items():
            if costs[one] + cost < costs[other]:
                costs[other] = costs[one] + cost
                changed = True
        if not changed:
            return False
    return True


class TestMoved(unittest.TestCase):
    def test_all_sharings_of_small_tables(self):
        chance = random.Random(70)
        for _ in range(30):
            boxes = chance.randint(1, 3)
            blocks = random_blocks(chance, boxes, chance.randint(1, 3), boxes, 3)
            table = Table(boxes, blocks)
            for loss, later in itertools.product(all_lots(boxes), repeat=2):
                some = whole_sharings(blocks, loss)
                others = whole_sharings(blocks, later)
                for ahead, then in itertools.product(chance.sample(some, min(4, len(some))),
                                                     chance.sample(others, min(4, len(others)))):
                    found = moved(table, loss, ahead, later, then)
                    self.assertEqual(found, moved_here(ahead, then))
                    self.assertIs(type(found), int)

    def test_of_a_sharing_and_itself(self):
        for loss in all_lots(3):
            for thing in whole_sharings(TOLD.blocks, loss):
                self.assertEqual(moved(TOLD, loss, thing, loss, thing), 0)

    def test_blocks_that_are_gone_either_time_are_left_out(self):
        table = Table(3, (((0, 1), 3), ((1, 2), 2), ((0, 2), 4)))
        ahead = (1, {0: (0, 3), 1: (2, 0), 2: (4, 0)})
        self.assertEqual(moved(table, (), ahead, (0, 1), (1, {1: (0, 2), 2: (0, 4)})), 6)
        self.assertEqual(moved(table, (0, 1), (1, {1: (0, 2), 2: (0, 4)}), (), ahead), 6)
        self.assertEqual(moved(table, (0, 1), (1, {1: (0, 2), 2: (0, 4)}), (1, 2), (1, {0: (3, 0), 2: (4, 0)})), 4)
        self.assertEqual(moved(table, (0, 1, 2), (1, {}), (), ahead), 0)
        self.assertEqual(moved(table, (), ahead, (0, 1, 2), (1, {})), 0)

    def test_by_hand(self):
        self.assertEqual(moved(TOLD, (), AHEAD, (0,), (1, {0: (0, 3), 1: (0, 2)})), 3)
        self.assertEqual(moved(TOLD, (), AHEAD, (), (1, {0: (1, 2), 1: (0, 2)})), 2)
        self.assertEqual(moved(TOLD, (), AHEAD, (1,), (1, {0: (3, 0), 1: (0, 2)})), 2)

    def test_weights_are_of_any_size(self):
        table = Table(2, (((0, 1), 10 ** 6),) * 3)
        one = (1, {number: (10 ** 6, 0) for number in range(3)})
        other = (1, {number: (0, 10 ** 6) for number in range(3)})
        self.assertEqual(moved(table, (), one, (), other), 3 * 10 ** 6)


class TestLeastMoves(unittest.TestCase):
    def assert_right(self, table, loss, ahead, later):
        """The sharing that is told, but for how many asks are moved at least."""
        found = least_moves(table, loss, ahead, later)
        most = rounded_up(least_by_boxes(table.blocks, later))
        self.assertTrue(is_right_sharing(table.boxes, table.blocks, later, found))
        self.assertEqual(found[0], 1)
        self.assertEqual(load(table.boxes, table.blocks, found), most)
        many = fewest_moved(table, loss, ahead, later)
        self.assertIs(type(many), int)
        self.assertEqual(many, moved_here(ahead, found))
        self.assertEqual(many, moved(table, loss, ahead, later, found))
        return found, many, most

    def test_against_all_sharings_of_small_tables(self):
        chance = random.Random(71)
        told = {}
        for _ in range(70):
            boxes = chance.randint(1, 4)
            blocks = random_blocks(chance, boxes, chance.randint(1, 4), 3, 3)
            table = Table(boxes, blocks)
            for loss, later in itertools.product(chance.sample(all_lots(boxes), min(4, 2 ** boxes)), repeat=2):
                some = whole_sharings(blocks, loss)
                then = whole_sharings(blocks, later)
                for ahead in chance.sample(some, min(3, len(some))):
                    _, many, most = self.assert_right(table, loss, ahead, later)
                    right = min([moved_here(ahead, thing) for thing in then if load(boxes, blocks, thing) == most])
                    self.assertEqual(many, right)
                    told[right] = told.get(right, 0) + 1
        self.assertTrue(min([told.get(many, 0) for many in (0, 1, 2, 3)]) > 20, told)

    def test_asks_push_others_on(self):
        # One ask more in a full row: the fewest moves lead through all of it.
        blocks = tuple([((at, at + 1), 2) for at in range(5)])
        table = Table(6, blocks)
        ahead = (1, {at: (2, 0) for at in range(5)})
        found, many, most = self.assert_right(table, (5,), ahead, (0,))
        self.assertEqual((many, most, found), (10, 2, (1, {at: (0, 2) for at in range(5)})))
        ahead = (1, {at: (1, 1) for at in range(5)})
        self.assertEqual(fewest_moved(table, (), ahead, ()), 0)
        self.assertEqual(fewest_moved(table, (), ahead, (5,)), 5)

    def test_greater_tables_by_exchanges_of_single_asks(self):
        for seed in range(72, 80):
            chance = random.Random(seed)
            boxes = chance.randint(5, 9)
            blocks = random_blocks(chance, boxes, chance.randint(10, 30), 4, 12)
            table = Table(boxes, blocks)
            for _ in range(6):
                loss, later = [tuple(sorted(chance.sample(range(boxes), chance.randint(0, 3)))) for _ in range(2)]
                for ahead in (dealt_by_chance(chance, blocks, loss), whole_sharing(table, loss)):
                    found, _, most = self.assert_right(table, loss, ahead, later)
                    self.assertFalse(can_be_fewer(boxes, blocks, later, ahead, found, most))

    def test_tables_of_400_asks_and_120_boxes(self):
        chance = random.Random(80)
        tables = [Table(120, random_blocks(chance, 120, 360, most, 1)) for most in (2, 4, 8)]
        tables += [Table(40, random_blocks(chance, 40, 40, 6, 10)), Table(12, (((0, 3, 7), 200), ((3, 11), 200)))]
        tables += [Table(120, laid((120,), random_kinds(chance, 120, 3, 1)))]
        tables += [Table(20, laid((4, 5), random_kinds(chance, 20, 2, 10, 3)))]
        tables += [Table(120, ((tuple(range(120)), 1),) * 360)]
        for table in tables:
            blocks = table.blocks
            self.assertTrue(sum([weight for _, weight in blocks]) <= 400)
            for size, other in ((0, 1), (1, 0), (2, 2), (table.boxes // 4, table.boxes // 4)):
                loss, later = [tuple(sorted(chance.sample(range(table.boxes), many))) for many in (size, other)]
                for ahead in (whole_sharing(table, loss), dealt_by_chance(chance, blocks, loss)):
                    found = least_moves(table, loss, ahead, later)
                    most = least_whole(table, later)
                    self.assertTrue(is_right_sharing(table.boxes, blocks, later, found))
                    self.assertEqual((found[0], load(table.boxes, blocks, found)), (1, most))
                    self.assertEqual(fewest_moved(table, loss, ahead, later), moved_here(ahead, found))
                    self.assertFalse(can_be_fewer(table.boxes, blocks, later, ahead, found, most))

    def test_the_look_finds_what_can_be_fewer(self):
        blocks = tuple([((at % 4, (at + 1) % 4), 1) for at in range(4)])
        ahead = (1, {at: (1, 0) if at < 3 else (0, 1) for at in range(4)})
        round_about = (1, {at: (0, 1) if at < 3 else (1, 0) for at in range(4)})
        self.assertTrue(can_be_fewer(4, blocks, (), ahead, round_about, 1))
        self.assertFalse(can_be_fewer(4, blocks, (), ahead, ahead, 1))

    def test_the_same_loss_again(self):
        chance = random.Random(81)
        for _ in range(40):
            boxes = chance.randint(1, 8)
            table = Table(boxes, random_blocks(chance, boxes, chance.randint(1, 12), 4, 9))
            for loss in chance.sample(all_lots(boxes), 2):
                ahead = whole_sharing(table, loss)
                self.assertEqual(fewest_moved(table, loss, ahead, loss), 0)
                self.assertEqual(least_moves(table, loss, ahead, loss), ahead)

    def test_loads_ahead_that_are_not_the_least(self):
        table = Table(4, (((0, 1, 2, 3), 8),))
        for row, many in (((8, 0, 0, 0), 6), ((0, 0, 4, 4), 4), ((3, 2, 2, 1), 1), ((2, 2, 2, 2), 0)):
            self.assertEqual(fewest_moved(table, (), (1, {0: row}), ()), many)
            self.assertEqual(least_moves(table, (), (1, {0: row}), ()), (1, {0: (2, 2, 2, 2)}))

    def test_blocks_gone_ahead_are_dealt_for_nothing(self):
        table = Table(3, (((0,), 2), ((0, 1), 2), ((1, 2), 4)))
        ahead = (1, {1: (0, 2), 2: (2, 2)})
        self.assertEqual(fewest_moved(table, (0,), ahead, ()), 1)
        self.assertEqual(fewest_moved(table, (0, 1, 2), (1, {}), ()), 0)
        self.assertEqual(fewest_moved(table, (0,), ahead, (0, 1, 2)), 0)
        self.assertEqual(least_moves(table, (0,), ahead, (0, 1, 2)), (1, {}))
        # The block that comes back leaves the others where they are.
        table = Table(4, (((0, 1), 2), ((1, 2), 2), ((2, 3), 2), ((3,), 2)))
        self.assertEqual(fewest_moved(table, (3,), (1, {0: (2, 0), 1: (1, 1), 2: (2, 0)}), ()), 1)

    def test_the_example(self):
        self.assertEqual(fewest_moved(TOLD, (), AHEAD, (0,)), 3)


class TestErrors(unittest.TestCase):
    def assert_raises(self, error, loss, ahead, later, then=(1, {0: (2, 1), 1: (1, 1)}), table=TOLD, all_three=True):
        calls = [(least_moves, table, loss, ahead, later), (fewest_moved, table, loss, ahead, later)]
        for call in calls + ([(moved, table, loss, ahead, later, then)] if all_three else []):
            with self.assertRaises(error) as caught:
                call[0](*call[1:])
            self.assertIs(type(caught.exception), error)
            if error is TooMany:
                self.assertEqual(caught.exception.most, 400)

    def test_no_loss_for_either(self):
        for loss in (*odd_things(), *WRONG_LOSSES):
            for ahead in (AHEAD, None):
                self.assert_raises(NoLoss, loss, ahead, ())
                self.assert_raises(NoLoss, (), ahead, loss)
                self.assert_raises(NoLoss, loss, ahead, loss)
                with self.assertRaises(NoLoss):
                    moved(TOLD, (), ahead, loss, None)

    def wrong_sharings(self):
        return [*odd_things(), (2, {0: (4, 2), 1: (2, 2)}), (0, {0: (0, 0), 1: (0, 0)}), (True, AHEAD[1]), [1, AHEAD[1]],
                (1, {0: (2, 1)}), (1, {0: (2, 1), 1: (1, 1), 2: (0, 0)}), (1, {0: [2, 1], 1: (1, 1)}), (1, {}), (1,), (),
                (1, {0: (2, 2), 1: (1, 1)}), (1, {0: (4, -1), 1: (1, 1)}), (1, {0: (2, True), 1: (1, 1)}), AHEAD[1],
                (1, AHEAD[1], 1), (1, [(2, 1), (1, 1)])]

    def test_no_sharing_for_either(self):
        for thing in self.wrong_sharings():
            self.assert_raises(NoSharing, (), thing, ())
            self.assert_raises(NoSharing, (), thing, (0,))
            for ahead in (AHEAD, None):
                with self.assertRaises(NoSharing) as caught:
                    moved(TOLD, (), ahead, (), thing)
                self.assertIs(type(caught.exception), NoSharing)

    def test_a_sharing_of_two_parts_is_none(self):
        table = Table(2, (((0, 1), 2),))
        two = (2, {0: (2, 2)})
        self.assert_raises(NoSharing, (), two, (), (1, {0: (1, 1)}), table)
        with self.assertRaises(NoSharing):
            moved(table, (), (1, {0: (1, 1)}), (), two)
        self.assertEqual(moved(table, (), (1, {0: (1, 1)}), (), (1, {0: (2, 0)})), 1)

    def test_a_sharing_behind_another_loss_is_none(self):
        self.assert_raises(NoSharing, (0,), AHEAD, (), AHEAD)
        with self.assertRaises(NoSharing):
            moved(TOLD, (), AHEAD, (0,), AHEAD)
        with self.assertRaises(NoSharing):
            moved(TOLD, (), AHEAD, (0, 1), (1, {0: (0, 0), 1: (0, 2)}))

    def test_too_many_behind_all_others(self):
        for blocks, many in (((((0, 1), 400),), 400), ((((0, 1), 200), ((1, 2), 200)), 400), ((((0, 1), 401),), 401),
                             ((((0, 1), 200), ((1, 2), 201)), 401), ((((0, 1), 10 ** 6), ((1, 2), 10 ** 6)), 2 * 10 ** 6),
                             ((((2,), 1), ((0, 1), 400)), 401)):
            table = Table(3, blocks)
            self.assertEqual(sum([weight for _, weight in blocks]), many)
            for loss, later in (((), (0,)), ((), ()), ((2,), (2,)), ((0, 1, 2), ())):
                ahead = whole_sharing(table, loss)
                then = whole_sharing(table, later)
                self.assertEqual(moved(table, loss, ahead, later, then), moved_here(ahead, then))
                if many > 400:
                    self.assert_raises(TooMany, loss, ahead, later, None, table, False)
                else:
                    self.assertEqual(least_moves(table, loss, ahead, later)[0], 1)
            self.assert_raises(NoLoss, (3,), None, (), None, table, False)
            self.assert_raises(NoLoss, (), None, (3,), None, table, False)
            self.assert_raises(NoSharing, (), None, (), None, table, False)


class TestNothingChanges(unittest.TestCase):
    def test_dicts_are_new_each_time(self):
        ahead = (1, {0: (2, 1), 1: (1, 1)})
        one = least_moves(TOLD, (), ahead, ())
        right = (1, dict(one[1]))
        self.assertIsNot(one[1], ahead[1])
        one[1].clear()
        self.assertEqual(ahead, AHEAD)
        self.assertEqual(least_moves(TOLD, (), ahead, ()), right)

    def test_arguments_stay_as_they_are(self):
        table = Table(3, TOLD.blocks)
        ahead, then = (1, {0: (2, 1), 1: (1, 1)}), (1, {0: (0, 3), 1: (0, 2)})
        moved(table, (), ahead, (0,), then)
        self.assertEqual(least_moves(table, (), ahead, (0,)), least_moves(TOLD, (), AHEAD, (0,)))
        fewest_moved(table, (), ahead, (0,))
        self.assertEqual((ahead, then), (AHEAD, (1, {0: (0, 3), 1: (0, 2)})))
        self.assertEqual(vars(table), vars(TOLD))

    def test_wrong_arguments_stay_as_they_are(self):
        things = plain_things()
        kept = copies_of(things)
        for thing in things:
            for call in ((moved, (), thing, (), thing), (least_moves, (), thing, ()), (fewest_moved, thing, thing, ()),
                         (least_moves, (), (1, thing), ())):
                with self.assertRaises((NoLoss, NoSharing)):
                    call[0](TOLD, *call[1:])
        self.assertEqual(things, kept)


class TestInterface(unittest.TestCase):
    def test_names_are_defined_here(self):
        for name in ("moved", "least_moves", "fewest_moved"):
            self.assertEqual(getattr(moves, name).__module__, "roundcopies.moves")


if __name__ == "__main__":
    unittest.main()
