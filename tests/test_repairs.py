"""Repairs: copies wanted, mendings, turns, slow pairs."""

import random
import unittest

from brute import all_lots, laid, left, random_blocks, random_kinds
from odd import copies_of, nested, odd_things, plain_things
from repairing import (are_right_turns, behind, is_right_mending, is_right_slow, least_by_mendings, least_by_slow_pairs,
                       mending_by_chance, turns_by_chance, ways_of)
from roundcopies import repairs
from roundcopies.errors import NoLoss, NoMending, NoNumber
from roundcopies.repairs import heals, is_mending, is_slow, is_turns, least_turns, mended, slow, turns, wanted
from roundcopies.tables import Table, gone

TOLD = Table(3, (((0, 1), 3), ((1, 2), 2)))
MENDING = ((0, 0, 2), (1, 2, 0))
WRONG_LOSSES = ([], [0], (3,), (0, 3), (1, 0), (0, 0), (-1,), (True,), (False, 1), 0, None, "0", {}, range(1))


def drawn(chance, most_boxes, most_blocks, most_size):
    """A table and a loss, by chance: some blocks lie on few boxes, some on nearly all."""
    boxes = chance.randint(1, most_boxes)
    blocks = random_blocks(chance, boxes, chance.randint(1, most_blocks), most_size, 9)
    if boxes > 2 and chance.random() < 0.4:
        free = chance.sample(range(boxes), 2)
        spare = [chance.sample(free, chance.choice((1, 1, 2))) for _ in blocks]
        blocks = tuple([(tuple([box for box in range(boxes) if box not in lot]), 1) for lot in spare])
    lost = chance.choice((0, 1, 1, 2, 2, 3, chance.randint(0, boxes)))
    return boxes, blocks, tuple(sorted(chance.sample(range(boxes), min(boxes, lost))))


class TestWanted(unittest.TestCase):
    def test_all_losses_of_small_tables(self):
        chance = random.Random(140)
        seen = {"gone": 0, "fewer": 0, "none": 0}
        for _ in range(60):
            boxes, blocks, _ = drawn(chance, 6, 8, 6)
            for loss in all_lots(boxes):
                right = behind(boxes, blocks, loss).wants
                found = wanted(Table(boxes, blocks), loss)
                self.assertEqual(found, right)
                self.assertIs(type(found), dict)
                self.assertTrue(all([type(one) is int for pair in found.items() for one in pair]))
                seen["gone"] += len(left(blocks, loss)) < len(blocks)
                seen["none"] += not found
                seen["fewer"] += any([many < len(set(blocks[block][0]) & set(loss)) for block, many in right.items()])
        self.assertTrue(min(seen.values()) > 50, seen)

    def test_by_hand(self):
        self.assertEqual(wanted(TOLD, ()), {})
        self.assertEqual(wanted(TOLD, (0, 1, 2)), {})
        self.assertEqual(wanted(TOLD, (1,)), {0: 1, 1: 1})
        self.assertEqual(wanted(TOLD, (0, 1)), {})
        self.assertEqual(wanted(TOLD, (0,)), {0: 1})
        table = Table(6, (((0, 1, 2, 3), 1), ((4,), 1), ((0, 4), 1), ((0, 1, 2, 3, 4, 5), 1)))
        self.assertEqual(wanted(table, (0, 1)), {0: 2, 2: 1})
        self.assertEqual(wanted(table, (0, 1, 2)), {0: 2, 2: 1})
        self.assertEqual(wanted(table, (0, 1, 2, 4)), {0: 1})


class TestIsMending(unittest.TestCase):
    def test_mendings_in_any_order(self):
        chance = random.Random(141)
        many = 0
        for _ in range(300):
            boxes, blocks, loss = drawn(chance, 7, 7, 4)
            job = behind(boxes, blocks, loss)
            thing = mending_by_chance(chance, job)
            self.assertIs(is_mending(Table(boxes, blocks), loss, thing), True)
            self.assertTrue(is_right_mending(job, thing))
            many += len(thing)
        self.assertGreater(many, 300)

    def test_one_thing_otherwise(self):
        chance = random.Random(142)
        seen = {True: 0, False: 0}
        for _ in range(250):
            boxes, blocks, loss = drawn(chance, 6, 5, 4)
            table, job = Table(boxes, blocks), behind(boxes, blocks, loss)
            thing = mending_by_chance(chance, job)
            for at, (block, giver, getter) in enumerate(thing):
                for other in ([(block, giver, to) for to in range(-1, boxes + 1)]
                              + [(block, by, getter) for by in range(-1, boxes + 1)]
                              + [(one, giver, getter) for one in range(-1, len(blocks) + 1)]):
                    wrong = thing[:at] + (other,) + thing[at + 1:]
                    right = is_right_mending(job, wrong)
                    self.assertIs(is_mending(table, loss, wrong), right)
                    seen[right] += 1
                self.assertIs(is_mending(table, loss, thing[:at] + thing[at + 1:]), False)
                self.assertIs(is_mending(table, loss, thing + (thing[at],)), False)
                for other in ([block, giver, getter], (block, giver), (block, giver, getter, 0), (True, giver, getter),
                              (block, giver == 1, getter), (block, giver, getter == 1), None, (block, None, getter),
                              (str(block), giver, getter), ((block,), giver, getter), (block, [giver], getter)):
                    wrong = thing[:at] + (other,) + thing[at + 1:]
                    self.assertIs(is_mending(table, loss, wrong), False)
            self.assertIs(is_mending(table, loss, list(thing)), False)
            self.assertIs(is_mending(table, loss, (thing,)), False)
        self.assertTrue(min(seen.values()) > 500, seen)

    def test_by_hand(self):
        self.assertIs(is_mending(TOLD, (1,), MENDING), True)
        self.assertIs(is_mending(TOLD, (1,), MENDING[::-1]), True)
        for thing in ((), MENDING[:1], MENDING[1:], MENDING * 2, ((0, 0, 2), (0, 0, 2)), ((0, 1, 2), (1, 2, 0)),
                      ((0, 0, 1), (1, 2, 0)), ((0, 0, 0), (1, 2, 0)), ((0, 2, 0), (1, 2, 0)), ((0, 0, 2), (1, 0, 2)),
                      ((0, 0, 2), (2, 2, 0)), ((0, 0, 2), (1, 2, 3)), ((0, 0, 2), (1, 2, -1)), ((0, 0, 2), (1, 2, False)),
                      ((False, 0, 2), (1, 2, 0)), ((0, 0, 2), (True, 2, 0)), [(0, 0, 2), (1, 2, 0)], ((0, 0, 2), [1, 2, 0]),
                      (MENDING,), {0: MENDING}, "002120", None):
            self.assertIs(is_mending(TOLD, (1,), thing), False, thing)
        # Copies made meanwhile do not give; a gone block is not mended; two of one block go to two boxes.
        table = Table(4, (((0, 1, 2), 1), ((1,), 1)))
        self.assertIs(is_mending(table, (1,), ((0, 0, 3),)), True)
        self.assertIs(is_mending(table, (1,), ((0, 3, 3),)), False)
        self.assertIs(is_mending(table, (1,), ((0, 0, 3), (1, 1, 2))), False)
        self.assertIs(is_mending(table, (1,), ((0, 0, 3), (1, 0, 2))), False)
        table = Table(5, (((0, 1, 2), 1),))
        self.assertIs(is_mending(table, (0, 1), ((0, 2, 3), (0, 2, 4))), True)
        self.assertIs(is_mending(table, (0, 1), ((0, 2, 3), (0, 2, 3))), False)
        self.assertIs(is_mending(table, (0, 1), ((0, 2, 3), (0, 3, 4))), False)

    def test_other_things(self):
        for thing in odd_things():
            self.assertIs(is_mending(TOLD, (1,), thing), False)
            self.assertIs(is_mending(TOLD, (1,), (thing,)), False)
            self.assertIs(is_mending(TOLD, (1,), (MENDING[0], thing)), False)
            self.assertIs(is_mending(TOLD, (), thing), False)
            for at in range(3):
                wrong = MENDING[0][:at] + (thing,) + MENDING[0][at + 1:]
                self.assertIs(is_mending(TOLD, (1,), (wrong, MENDING[1])), False)
        self.assertIs(is_mending(TOLD, (), ()), True)
        self.assertIs(is_mending(TOLD, (0, 1, 2), ()), True)
        self.assertIs(is_mending(TOLD, (1,), (MENDING[0],) * 20000), False)


class TestIsTurns(unittest.TestCase):
    def test_turns_made_here_and_mixed(self):
        chance = random.Random(143)
        seen = {True: 0, False: 0}
        for _ in range(500):
            boxes, blocks, loss = drawn(chance, 6, 6, 4)
            table, job = Table(boxes, blocks), behind(boxes, blocks, loss)
            thing = turns_by_chance(chance, mending_by_chance(chance, job))
            self.assertIs(is_turns(table, loss, thing), True)
            self.assertTrue(are_right_turns(job, thing))
            for _ in range(6):
                rows = [list(turn) for turn in thing]
                for _ in range(chance.randint(1, 2)):
                    if rows and chance.random() < 0.8:
                        row = chance.choice(rows)
                        moved = row.pop(chance.randrange(len(row))) if row else (0, 0, 0)
                        chance.choice(rows).append(moved)
                    else:
                        rows.insert(chance.randint(0, len(rows)), [])
                other = tuple([tuple(sorted(row) if chance.random() < 0.9 else row) for row in rows
                               if row or chance.random() < 0.1])
                right = are_right_turns(job, other)
                self.assertIs(is_turns(table, loss, other), right, other)
                seen[right] += 1
        self.assertTrue(min(seen.values()) > 300, seen)

    def test_by_hand(self):
        self.assertIs(is_turns(TOLD, (1,), (MENDING,)), True)
        self.assertIs(is_turns(TOLD, (1,), (MENDING[:1], MENDING[1:])), True)
        self.assertIs(is_turns(TOLD, (1,), (MENDING[1:], MENDING[:1])), True)
        for thing in ((), ((),), (MENDING, ()), ((), MENDING), MENDING, (MENDING[::-1],), [MENDING], (list(MENDING),),
                      (MENDING[:1],), (MENDING[1:],), (MENDING, MENDING), (MENDING[:1], MENDING), ((MENDING,),), None,
                      (MENDING[:1], (), MENDING[1:]), (MENDING[:1], [MENDING[1]]), ((MENDING[0], MENDING[0], MENDING[1]),)):
            self.assertIs(is_turns(TOLD, (1,), thing), False, thing)
        # A box that gives one and gets one is let; one that gives two, or gets two, is not.
        table = Table(5, (((0, 1), 1), ((1, 2), 1), ((0, 3), 1), ((0, 4), 1)))
        self.assertIs(is_turns(table, (0,), (((0, 1, 2), (2, 3, 1), (3, 4, 3)),)), True)
        self.assertIs(is_turns(table, (0,), (((0, 1, 2), (2, 3, 2), (3, 4, 3)),)), False)
        self.assertIs(is_turns(table, (0,), (((0, 1, 2), (3, 4, 3)), ((2, 3, 2),))), True)
        self.assertIs(is_turns(table, (1,), (((0, 0, 2), (1, 2, 0)),)), True)
        table = Table(4, (((0, 1), 1), ((0, 2), 1)))
        self.assertIs(is_turns(table, (1,), (((0, 0, 3),),)), True)
        self.assertIs(is_turns(table, (1, 2), (((0, 0, 3), (1, 0, 3)),)), False)
        self.assertIs(is_turns(table, (1, 2), (((0, 0, 3),), ((1, 0, 3),))), True)
        table = Table(4, (((0, 1), 1), ((0, 1), 1)))
        self.assertIs(is_turns(table, (1,), (((0, 0, 2), (1, 0, 3)),)), False)
        self.assertIs(is_turns(table, (1,), (((0, 0, 2),), ((1, 0, 3),))), True)

    def test_other_things(self):
        for thing in odd_things():
            for wrong in (thing, (thing,), ((thing,),), (MENDING, thing), ((MENDING[0], thing),), (MENDING[:1], (thing,)),
                          (((0, 0, thing),), MENDING[1:])):
                self.assertIs(is_turns(TOLD, (1,), wrong), False)
            self.assertIs(is_turns(TOLD, (), thing), False)
        self.assertIs(is_turns(TOLD, (), ()), True)
        self.assertIs(is_turns(TOLD, (0, 1, 2), ()), True)
        self.assertIs(is_turns(TOLD, (), ((),)), False)
        self.assertIs(is_turns(TOLD, (1,), nested(tuple, 40)), False)
        self.assertIs(is_turns(TOLD, (1,), ((MENDING[0],),) * 6000), False)


class TestTurns(unittest.TestCase):
    def assert_turns(self, table, loss, least=None):
        """Turns by the test's own look, as many as are told; no slow pair for these, but for one fewer."""
        job = behind(table.boxes, table.blocks, loss)
        found, many = turns(table, loss), least_turns(table, loss)
        self.assertTrue(are_right_turns(job, found), (table.blocks, loss, found))
        self.assertIs(is_turns(table, loss, found), True)
        self.assertEqual((len(found), type(many)), (many, int))
        if least is not None:
            self.assertEqual(many, least)
        self.assertIsNone(slow(table, loss, many))
        for fewer in range(max(0, many - 3), many):
            pair = slow(table, loss, fewer)
            # No mending can be faster than a slow pair lets: so these turns are as few as can be.
            self.assertTrue(is_right_slow(job, table.blocks, fewer, pair), (fewer, pair))
            self.assertIs(is_slow(table, loss, fewer, pair), True)
        return many

    def test_against_all_mendings_of_small_tables(self):
        chance = random.Random(144)
        seen = {}
        tried = 0
        while tried < 400:
            boxes, blocks, loss = drawn(chance, 6, 6, 4)
            job = behind(boxes, blocks, loss)
            rows, many = ways_of(job)
            if job.wants and many <= 4000:
                least = self.assert_turns(Table(boxes, blocks), loss, least_by_mendings(rows))
                self.assertEqual(least, least_by_slow_pairs(job))
                seen[least] = seen.get(least, 0) + 1
                tried += 1
        self.assertTrue(min([seen.get(many, 0) for many in (1, 2, 3, 4)]) > 10, seen)

    def test_greater_tables(self):
        chance = random.Random(145)
        for _ in range(150):
            boxes = chance.randint(4, 20)
            table = Table(boxes, random_blocks(chance, boxes, chance.randint(1, 60), chance.randint(1, boxes), 9))
            self.assert_turns(table, tuple(sorted(chance.sample(range(boxes), chance.randint(0, boxes)))))

    def test_layouts(self):
        chance = random.Random(146)
        for moduli, places in (((7,), 7), ((3, 4), 12), ((2, 3, 5), 30), ((120,), 120)):
            for many in (1, 2, 3):
                table = Table(places, laid(moduli, random_kinds(chance, places, many, 3, 2, 6)))
                for lost in (1, 2, places // 3):
                    self.assert_turns(table, tuple(sorted(chance.sample(range(places), lost))))

    def test_many_blocks_on_few_boxes(self):
        chance = random.Random(147)
        for boxes, size in ((3, 2), (4, 2), (5, 3), (6, 5), (10, 4)):
            table = Table(boxes, random_blocks(chance, boxes, 360, size, 2))
            for lost in range(1, boxes):
                self.assert_turns(table, tuple(range(lost)))
        self.assert_turns(Table(2, (((0, 1), 1),) * 360), (0,), 0)
        self.assert_turns(Table(3, (((0, 1), 1),) * 360), (0,), 360)
        self.assert_turns(Table(4, (((0, 1), 1),) * 360), (0,), 360)
        self.assert_turns(Table(4, (((0, 1, 2), 1),) * 360), (0,), 360)
        self.assert_turns(Table(5, (((0, 1, 2), 1),) * 360), (0,), 180)

    def test_pieces_side_by_side(self):
        chance = random.Random(148)
        for pieces, boxes in ((8, 5), (13, 3), (20, 2), (4, 10)):
            blocks, loss = [], []
            for piece in range(pieces):
                here = random_blocks(chance, boxes, chance.randint(1, 7), boxes, 2)
                blocks += [(tuple([piece * boxes + box for box in lot]), weight) for lot, weight in here]
                loss += [piece * boxes + box for box in chance.sample(range(boxes), chance.randint(0, boxes - 1))]
            self.assert_turns(Table(pieces * boxes, tuple(blocks)), tuple(sorted(loss)))

    def test_the_greatest_tables(self):
        chance = random.Random(149)
        self.assert_turns(Table(120, ((tuple(range(60)), 1),) * 360), tuple(range(59)), 21240)
        for size, lost in ((60, 60), (60, 30), (8, 30), (2, 60)):
            blocks = tuple([(tuple(sorted(chance.sample(range(120), size))), 1) for _ in range(360)])
            self.assert_turns(Table(120, blocks), tuple(sorted(chance.sample(range(120), lost))))

    def test_getting_is_the_harder(self):
        # All must go to the one box that is free, or to the two.
        table = Table(6, tuple([((at % 4, 4), 1) for at in range(12)]))
        self.assert_turns(Table(5, tuple([((0, 1, 2), 1), ((0, 1, 3), 1), ((0, 2, 3), 1)])), (0,))
        self.assert_turns(table, (4,))
        blocks = tuple([(tuple([box for box in range(7) if box != at]), 1) for at in (5, 5, 5, 6, 6)])
        self.assert_turns(Table(7, blocks), (0,), 3)
        self.assertEqual(slow(Table(7, blocks), (0,), 2), ("get", (5,)))
        self.assertEqual(slow(Table(7, blocks), (0,), 1)[0], "get")

    def test_blocks_on_nearly_all_boxes(self):
        # Boxes that give are many, those that get are few: which of them are too few must be told exactly.
        chance = random.Random(153)
        seen = 0
        for _ in range(400):
            lost, free, own = chance.randint(1, 3), chance.randint(3, 5), chance.randint(4, 9)
            boxes = lost + free + own
            blocks = []
            for _ in range(chance.randint(2, 9)):
                beside = chance.sample(range(free), chance.randint(min(lost, free), free))
                blocks.append((tuple([box for box in range(boxes) if box not in beside]), 1))
            table, loss = Table(boxes, tuple(blocks)), tuple(range(boxes - lost, boxes))
            job = behind(boxes, table.blocks, loss)
            most = self.assert_turns(table, loss, least_by_slow_pairs(job))
            for many in range(most):
                pair = slow(table, loss, many)
                self.assertTrue(is_right_slow(job, table.blocks, many, pair))
                seen += pair[0] == "get"
        self.assertGreater(seen, 200)
        table = Table(8, (((3, 4, 5, 6, 7), 1), ((2, 3, 4, 5, 6, 7), 1)))
        self.assertEqual(slow(table, (4, 5), 1), ("get", (0, 1)))
        self.assertEqual(least_turns(table, (4, 5)), 2)

    def test_nothing_is_wanted(self):
        for table, loss in ((TOLD, ()), (TOLD, (0, 1, 2)), (TOLD, (0, 1)), (Table(1, (((0,), 1),)), ())):
            self.assertEqual((turns(table, loss), least_turns(table, loss)), ((), 0))
            self.assertIsNone(slow(table, loss, 0))

    def test_the_example(self):
        self.assertEqual(turns(TOLD, (1,)), (((0, 0, 2), (1, 2, 0)),))
        self.assertEqual(least_turns(TOLD, (1,)), 1)
        self.assertIsNone(slow(TOLD, (1,), 1))


class TestSlow(unittest.TestCase):
    def test_none_exactly_if_the_turns_are_enough(self):
        chance = random.Random(150)
        seen = {}
        for _ in range(300):
            boxes, blocks, loss = drawn(chance, 7, 8, 4)
            table, job = Table(boxes, blocks), behind(boxes, blocks, loss)
            least = least_turns(table, loss)
            self.assertEqual(least, least_by_slow_pairs(job))
            for many in (0, 1, 2, 3, least - 1, least, least + 1, 10 ** 6 - 1, 10 ** 6):
                if many >= 0:
                    pair = slow(table, loss, many)
                    self.assertEqual(pair is None, least <= many)
                    if pair is not None:
                        self.assertTrue(is_right_slow(job, blocks, many, pair))
                        self.assertIs(is_slow(table, loss, many, pair), True)
                        self.assertEqual((type(pair), type(pair[1])), (tuple, tuple))
                        seen[pair[0]] = seen.get(pair[0], 0) + 1
        self.assertTrue(min(seen["give"], seen["get"]) > 10, seen)

    def test_judged_by_the_tests_own_look(self):
        chance = random.Random(151)
        seen = {("give", True): 0, ("give", False): 0, ("get", True): 0, ("get", False): 0}
        for _ in range(120):
            boxes, blocks, loss = drawn(chance, 5, 5, 4)
            table, job = Table(boxes, blocks), behind(boxes, blocks, loss)
            for many in (0, 1, 2, 3):
                for word, most in (("give", len(blocks)), ("get", boxes)):
                    for lot in all_lots(most + 1):
                        right = is_right_slow(job, blocks, many, (word, lot))
                        self.assertIs(is_slow(table, loss, many, (word, lot)), right)
                        seen[word, right] += 1
        self.assertTrue(min(seen.values()) > 100, seen)

    def test_by_hand(self):
        table = Table(5, (((0, 1), 1), ((0, 1), 1), ((1,), 1), ((0, 2), 1), ((3,), 1), ((2,), 1)))
        self.assertEqual(wanted(table, (0,)), {0: 1, 1: 1, 3: 1})
        self.assertIs(is_slow(table, (0,), 1, ("give", (0, 1))), True)
        self.assertIs(is_slow(table, (0,), 1, ("give", (0, 1, 2))), True)
        self.assertIs(is_slow(table, (0,), 1, ("give", (0, 1, 3))), True)
        self.assertIs(is_slow(table, (0,), 1, ("give", (0, 1, 3, 4))), False)
        self.assertIs(is_slow(table, (0,), 1, ("give", (0, 3))), False)
        self.assertIs(is_slow(table, (0,), 2, ("give", (0, 1))), False)
        self.assertIs(is_slow(table, (0,), 0, ("give", (0,))), True)
        self.assertIs(is_slow(table, (0,), 0, ("give", (2,))), False)
        self.assertIs(is_slow(table, (0,), 0, ("give", ())), False)
        self.assertIs(is_slow(table, (0,), 0, ("get", ())), False)
        self.assertIs(is_slow(table, (0,), 0, ("get", (1, 2, 3, 4))), True)
        self.assertIs(is_slow(table, (0,), 0, ("get", (2, 3, 4))), True)
        # A lost box is none of the lot.
        self.assertIs(is_slow(table, (0,), 0, ("get", (0, 1, 2, 3, 4))), False)

    def test_blocks_that_are_gone_want_nothing_and_give_nothing(self):
        table = Table(3, (((0,), 1), ((0, 1), 1), ((0, 1), 1)))
        self.assertEqual((gone(table, (0,)), wanted(table, (0,))), ((0,), {1: 1, 2: 1}))
        self.assertIs(is_slow(table, (0,), 1, ("give", (0, 1, 2))), True)
        self.assertIs(is_slow(table, (0,), 1, ("give", (0, 1))), False)
        self.assertIs(is_slow(table, (0,), 0, ("give", (0,))), False)
        self.assertIs(is_slow(table, (0,), 0, ("give", (0, 1))), True)

    def test_other_things(self):
        right = ("give", (0, 1))
        self.assertIs(is_slow(TOLD, (1,), 0, right), True)
        self.assertIs(is_slow(TOLD, (1,), 0, ("get", (0, 2))), True)
        wrong = [*odd_things(), (), right[:1], (*right, 0), list(right), ("give", [0, 1]), ("Give", (0, 1)), ("", (0, 1)),
                 ("gets", (0, 1)), (b"give", (0, 1)), ("give", (1, 0)), ("give", (0, 0)), ("give", (0, 2)), ("give", (-1, 0)),
                 ("give", (False, 1)), ("give", (0, True)), ("get", (0, 3)), ("get", [0, 2]), ("get", (2, 0)),
                 ("get", (False, 2)), ("get", (0, 1)), ("get", (1,)), ("give", {0: 1}), ("give", "01"), ("give", 0),
                 ((0, 1), "give"), {"give": (0, 1)}, "give", (("give", (0, 1)),), ("give", ((0, 1),)), ("give", None)]
        for thing in wrong:
            for many in (0, 10 ** 6):
                self.assertIs(is_slow(TOLD, (1,), many, thing), False)
        for thing in odd_things():
            for word in ("give", "get"):
                self.assertIs(is_slow(TOLD, (1,), 0, (word, thing)), False)
                self.assertIs(is_slow(TOLD, (1,), 0, (word, (thing,))), False)
            self.assertIs(is_slow(TOLD, (1,), 0, (thing, (0, 1))), False)


class TestMended(unittest.TestCase):
    def test_tables_due(self):
        chance = random.Random(152)
        seen = {"gone": 0, True: 0, False: 0}
        for _ in range(300):
            boxes, blocks, loss = drawn(chance, 7, 7, 5)
            table, job = Table(boxes, blocks), behind(boxes, blocks, loss)
            thing = mending_by_chance(chance, job)
            lots = []
            for block, (lot, weight) in enumerate(blocks):
                added = {getter for one, _, getter in thing if one == block}
                lots.append((tuple(sorted(job.held[block] | added)) if block in job.held else lot, weight))
            found = mended(table, loss, thing)
            self.assertIs(type(found), Table)
            self.assertEqual(found, Table(boxes, tuple(lots)))
            whole = len(job.held) == len(blocks) and all([len(lot) == len(block[0]) for (lot, _), block in zip(lots, blocks)])
            self.assertIs(heals(table, loss), whole)
            seen["gone"] += len(job.held) < len(blocks)
            seen[whole] += 1
        self.assertTrue(min(seen.values()) > 60, seen)

    def test_by_hand(self):
        self.assertEqual(mended(TOLD, (1,), MENDING), Table(3, (((0, 2), 3), ((0, 2), 2))))
        self.assertEqual(mended(TOLD, (1,), MENDING[::-1]), Table(3, (((0, 2), 3), ((0, 2), 2))))
        self.assertEqual(mended(TOLD, (), ()), TOLD)
        self.assertEqual(mended(TOLD, (0, 1, 2), ()), TOLD)
        self.assertEqual(mended(TOLD, (0, 1), ()), Table(3, (((0, 1), 3), ((2,), 2))))
        self.assertEqual([heals(TOLD, loss) for loss in ((), (0,), (1,), (0, 1), (1, 2), (0, 1, 2))],
                         [True, True, True, False, False, False])
        table = Table(4, (((0, 1, 2), 1),))
        self.assertEqual([heals(table, loss) for loss in all_lots(4)], [True] * 5 + [False] * 11)
        self.assertIs(heals(Table(2, (((0,), 1),)), (0,)), False)
        self.assertIs(heals(Table(2, (((0,), 1),)), (1,)), True)


class TestErrors(unittest.TestCase):
    def assert_raises(self, error, call, *args):
        with self.assertRaises(error) as caught:
            call(*args)
        self.assertIs(type(caught.exception), error)

    def test_no_loss_ahead_of_all_others(self):
        for loss in (*odd_things(), *WRONG_LOSSES):
            for call in (wanted, turns, least_turns, heals):
                self.assert_raises(NoLoss, call, TOLD, loss)
            for thing in (MENDING, (), None, loss):
                for call in (is_mending, is_turns, mended, slow):
                    self.assert_raises(NoLoss, call, TOLD, loss, thing)
                for many in (0, -1, None, True):
                    self.assert_raises(NoLoss, is_slow, TOLD, loss, many, thing)

    def test_no_number(self):
        for many in (*odd_things(), -1, 10 ** 6 + 1, 10 ** 59, True, False, "1", (1,), [1], ()):
            for loss in ((), (1,), (0, 1, 2)):
                self.assert_raises(NoNumber, slow, TOLD, loss, many)
                for thing in (("give", (0,)), None):
                    self.assert_raises(NoNumber, is_slow, TOLD, loss, many, thing)

    def test_no_mending(self):
        for thing in (*odd_things(), (), MENDING[:1], [(0, 0, 2), (1, 2, 0)], MENDING * 2, (MENDING,), None,
                      ((0, 0, 2), (1, 2, 1)), ((0, 0, 2), (1, 2, False))):
            self.assert_raises(NoMending, mended, TOLD, (1,), thing)
        self.assert_raises(NoMending, mended, TOLD, (), MENDING)


class TestNothingChanges(unittest.TestCase):
    def test_dicts_are_new_each_time(self):
        one = wanted(TOLD, (1,))
        self.assertIsNot(one, wanted(TOLD, (1,)))
        one.clear()
        one[7] = 7
        self.assertEqual(wanted(TOLD, (1,)), {0: 1, 1: 1})

    def test_arguments_stay_as_they_are(self):
        table = Table(3, TOLD.blocks)
        for call in ((wanted, (1,)), (turns, (1,)), (least_turns, (1,)), (slow, (1,), 0), (mended, (1,), MENDING),
                     (heals, (1,)), (is_mending, (1,), MENDING), (is_turns, (1,), (MENDING,)),
                     (is_slow, (1,), 0, ("give", (0, 1)))):
            self.assertEqual(call[0](table, *call[1:]), call[0](TOLD, *call[1:]))
        self.assertEqual(vars(table), vars(TOLD))
        self.assertEqual(MENDING, ((0, 0, 2), (1, 2, 0)))

    def test_wrong_arguments_stay_as_they_are(self):
        things = plain_things()
        kept = copies_of(things)
        for thing in things:
            for call in (is_mending, is_turns):
                self.assertIs(call(TOLD, (1,), thing), False)
            self.assertIs(is_slow(TOLD, (1,), 0, thing), False)
            self.assertRaises(NoMending, mended, TOLD, (1,), thing)
            self.assertRaises(NoLoss, turns, TOLD, thing)
            self.assertRaises(NoNumber, slow, TOLD, (), thing)
        self.assertEqual(things, kept)

    def test_names_are_defined_here(self):
        for name in ("wanted", "is_mending", "is_turns", "turns", "least_turns", "slow", "is_slow", "mended", "heals"):
            self.assertEqual(getattr(repairs, name).__module__, "roundcopies.repairs")


if __name__ == "__main__":
    unittest.main()
