"""Menders, led through drawn deeds beside an account of the tests' own."""

import itertools
import random
import unittest

from brute import laid, random_blocks, random_kinds
from odd import copies_of, odd_things, plain_things
from repairing import Job, are_right_turns, least_by_slow_pairs
from roundcopies import errors, menders
from roundcopies.errors import IsDown, IsUp, NoBox
from roundcopies.menders import Mender
from roundcopies.repairs import is_turns, least_turns, mended
from roundcopies.tables import Table, gone

TOLD = Table(3, (((0, 1), 3), ((1, 2), 2)))


def told_by(mender):
    """What a mender tells of itself."""
    now = mender.now()
    return (mender.plan(), mender.left(), now.boxes, now.blocks, mender.lost(), mender.gone_blocks(), mender.wants())


class Account:
    """What a mender is to tell: which boxes hold a copy of which block, which are lost, which blocks are gone."""

    def __init__(self, boxes, blocks):
        self.boxes = boxes
        self.blocks = blocks
        self.held = [set(lot) for lot, _ in blocks]
        self.last = [set(lot) for lot, _ in blocks]
        self.lost = set()
        self.gone = set()
        self.plan = ()

    def job(self):
        """What is to be done: each block wants as many copies as it had at first, so far as boxes are there."""
        there = set(range(self.boxes)) - self.lost
        held = {block: lot for block, lot in enumerate(self.held) if block not in self.gone}
        wants = {}
        for block, lot in held.items():
            wants[block] = min(len(self.blocks[block][0]) - len(lot), len(there - lot))
        return Job(there, held, wants)

    def lose(self, box):
        self.lost.add(box)
        for block, lot in enumerate(self.held):
            if block not in self.gone and box in lot:
                if lot == {box}:
                    self.gone.add(block)
                    self.last[block] = {box}
                lot.discard(box)

    def now(self):
        """The table as it is to be now."""
        lots = [self.last[block] if block in self.gone else lot for block, lot in enumerate(self.held)]
        return Table(self.boxes, tuple([(tuple(sorted(lot)), weight) for lot, (_, weight) in zip(lots, self.blocks)]))


class Led(unittest.TestCase):
    def led(self, boxes, blocks):
        mender, account = Mender(Table(boxes, blocks)), Account(boxes, blocks)
        self.judge(mender, account)
        return mender, account

    def judge(self, mender, account, planned=False):
        """A look at all that a mender tells; plans that are new are judged."""
        job = account.job()
        if planned:
            account.plan = mender.plan()
            self.assertTrue(are_right_turns(job, account.plan), account.plan)
            if len(job.wants) <= 7 and len(job.there) <= 7:
                self.assertEqual(len(account.plan), least_by_slow_pairs(job))
        self.assertEqual(mender.plan(), account.plan)
        self.assertEqual((mender.left(), type(mender.left())), (len(account.plan), int))
        self.assertEqual(mender.lost(), tuple(sorted(account.lost)))
        self.assertEqual(mender.gone_blocks(), tuple(sorted(account.gone)))
        self.assertEqual(mender.wants(), job.wants)
        now = mender.now()
        self.assertIs(type(now), Table)
        self.assertEqual(now, account.now())
        if mender.left() == 0:
            self.assertEqual(mender.wants(), {})

    def lose(self, mender, account, box):
        self.assertIsNone(mender.lose(box))
        account.lose(box)
        self.judge(mender, account, True)

    def renew(self, mender, account, box):
        self.assertIsNone(mender.renew(box))
        account.lost.discard(box)
        self.judge(mender, account, True)

    def step(self, mender, account):
        right = account.plan[0] if account.plan else ()
        found = mender.step()
        self.assertEqual((found, type(found)), (right, tuple))
        account.plan = account.plan[1:]
        for block, giver, getter in found:
            # A copy is read where it was as the turn was planned, so that it is there.
            self.assertIn(giver, account.held[block])
            account.held[block].add(getter)
        self.judge(mender, account)


class TestDrawnDeeds(Led):
    def lead(self, chance, boxes, blocks, many, seen):
        mender, account = self.led(boxes, blocks)
        for _ in range(many):
            there = sorted(set(range(boxes)) - account.lost)
            way = chance.random()
            if way < 0.25 and there:
                self.lose(mender, account, chance.choice(there))
                seen["meanwhile"] += len(account.plan) > 0
            elif way < 0.45 and account.lost:
                self.renew(mender, account, chance.choice(sorted(account.lost)))
            elif way < 0.9:
                self.step(mender, account)
                seen["step"] += 1
            elif way < 0.95:
                error, deed, box = chance.choice([(NoBox, mender.lose, boxes), (NoBox, mender.renew, -1)]
                                                 + [(IsDown, mender.lose, box) for box in account.lost]
                                                 + [(IsUp, mender.renew, box) for box in there])
                with self.assertRaises(error) as caught:
                    deed(box)
                self.assertIs(type(caught.exception), error)
                self.judge(mender, account)
            else:
                mender = mender.copy()
                self.judge(mender, account)
        seen["gone"] += len(account.gone)
        seen["left"] += len(blocks) - len(account.gone)

    def test_small_tables(self):
        chance = random.Random(170)
        seen = {"meanwhile": 0, "step": 0, "gone": 0, "left": 0}
        for _ in range(120):
            boxes = chance.randint(1, 6)
            self.lead(chance, boxes, random_blocks(chance, boxes, chance.randint(1, 6), 4, 9), 40, seen)
        self.assertTrue(min(seen.values()) > 60, seen)

    def test_greater_tables_with_few_losses(self):
        chance = random.Random(171)
        seen = {"meanwhile": 0, "step": 0, "gone": 0, "left": 0}
        for _ in range(12):
            boxes = chance.randint(7, 12)
            self.lead(chance, boxes, random_blocks(chance, boxes, chance.randint(8, 40), 6, 9), 40, seen)
        self.assertTrue(min(seen.values()) > 20, seen)

    def test_layouts(self):
        chance = random.Random(172)
        seen = {"meanwhile": 0, "step": 0, "gone": 0, "left": 0}
        for moduli, places in (((6,), 6), ((2, 3), 6), ((7,), 7), ((3, 4), 12)):
            self.lead(chance, places, laid(moduli, random_kinds(chance, places, 1, 3, 2, 4)), 40, seen)


class TestFact(Led):
    def test_left_goes_down_by_one_with_each_step(self):
        chance = random.Random(173)
        longest = 0
        for _ in range(80):
            boxes = chance.randint(2, 8)
            mender, account = self.led(boxes, random_blocks(chance, boxes, chance.randint(1, 20), 3, 9))
            for box in chance.sample(range(boxes), chance.randint(1, boxes)):
                self.lose(mender, account, box)
            longest = max(longest, mender.left())
            for left in range(mender.left(), 0, -1):
                self.assertEqual(mender.left(), left)
                self.assertNotEqual(mender.step(), ())
            self.assertEqual((mender.left(), mender.plan(), mender.wants()), (0, (), {}))
            before = told_by(mender)
            self.assertEqual(mender.step(), ())
            self.assertEqual(told_by(mender), before)
        self.assertGreater(longest, 5)

    def test_the_first_loss_is_mended_as_repairs_tell(self):
        chance = random.Random(174)
        for _ in range(80):
            boxes = chance.randint(1, 9)
            table = Table(boxes, random_blocks(chance, boxes, chance.randint(1, 15), 4, 9))
            mender = Mender(table)
            box = chance.randrange(boxes)
            mender.lose(box)
            self.assertIs(is_turns(table, (box,), mender.plan()), True)
            self.assertEqual(mender.left(), least_turns(table, (box,)))
            self.assertEqual(mender.gone_blocks(), gone(table, (box,)))
            right = mended(table, (box,), tuple([one for turn in mender.plan() for one in turn]))
            while mender.left():
                mender.step()
            self.assertEqual(mender.now(), right)

    def test_a_block_is_gone_just_if_all_copies_were_lost(self):
        # Losing both boxes at once takes the block; a step between saves it.
        mender, account = self.led(3, (((0, 1), 3), ((1, 2), 2)))
        self.lose(mender, account, 0)
        self.lose(mender, account, 1)
        self.assertEqual((mender.gone_blocks(), mender.now().blocks), ((0,), (((1,), 3), ((2,), 2))))
        mender, account = self.led(3, (((0, 1), 3), ((1, 2), 2)))
        self.lose(mender, account, 0)
        self.step(mender, account)
        self.lose(mender, account, 1)
        self.assertEqual((mender.gone_blocks(), mender.now().blocks), ((), (((2,), 3), ((2,), 2))))
        self.assertEqual((mender.wants(), mender.left()), ({}, 0))

    def test_a_box_that_was_lost_and_there_again_is_empty(self):
        mender, account = self.led(3, (((0, 1), 3), ((1, 2), 2)))
        self.lose(mender, account, 0)
        self.renew(mender, account, 0)
        self.assertEqual(mender.now().blocks, (((1,), 3), ((1, 2), 2)))
        self.assertEqual((mender.wants(), mender.left()), ({0: 1}, 1))
        self.lose(mender, account, 1)
        self.assertEqual((mender.gone_blocks(), mender.now().blocks), ((0,), (((1,), 3), ((2,), 2))))
        # What is gone stays gone, on the boxes that it had, whichever boxes are there.
        self.renew(mender, account, 1)
        self.assertEqual(mender.gone_blocks(), (0,))
        self.assertEqual(mender.now().blocks[0], ((1,), 3))
        self.assertEqual(mender.wants(), {1: 1})
        self.lose(mender, account, 1)
        self.assertEqual(mender.now().blocks[0], ((1,), 3))

    def test_copies_made_meanwhile_give_in_turns_planned_later(self):
        # Two copies of one block are wanted of one giver: one turn each, but behind the first one two can give.
        mender, account = self.led(6, (((0, 1, 2, 3), 1), ((0, 1, 2, 3), 1)))
        for box in (0, 1):
            self.lose(mender, account, box)
        self.assertEqual(mender.left(), 2)
        self.step(mender, account)
        self.lose(mender, account, 2)
        while mender.left():
            self.step(mender, account)
        self.assertEqual(mender.now().blocks, (((3, 4, 5), 1), ((3, 4, 5), 1)))
        self.renew(mender, account, 0)
        self.assertEqual((mender.wants(), mender.left()), ({0: 1, 1: 1}, 2))
        while mender.left():
            self.step(mender, account)
        self.assertEqual(mender.now().blocks, (((0, 3, 4, 5), 1), ((0, 3, 4, 5), 1)))

    def test_new_copies_can_be_needed_to_give(self):
        mender, account = self.led(3, (((0, 1), 1),))
        self.lose(mender, account, 1)
        self.assertEqual(mender.plan(), (((0, 0, 2),),))
        self.step(mender, account)
        self.lose(mender, account, 0)
        self.assertEqual((mender.plan(), mender.gone_blocks()), ((), ()))
        self.renew(mender, account, 0)
        self.assertEqual(mender.plan(), (((0, 2, 0),),))
        self.step(mender, account)
        self.assertEqual(mender.now().blocks, (((0, 2), 1),))

    def test_turns_that_were_planned_are_given_up(self):
        mender, account = self.led(5, (((0, 1), 1), ((0, 1), 1), ((0, 1), 1)))
        self.lose(mender, account, 0)
        self.assertEqual(mender.left(), 3)
        self.step(mender, account)
        self.lose(mender, account, 4)
        self.assertEqual(mender.lost(), (0, 4))
        self.assertTrue(all([getter not in (0, 4) for _, _, getter in itertools.chain(*mender.plan())]))
        while mender.left():
            self.step(mender, account)
        self.assertEqual([len(lot) for lot, _ in mender.now().blocks], [2, 2, 2])

    def test_the_example(self):
        mender = Mender(TOLD)
        mender.lose(1)
        self.assertEqual(mender.left(), 1)
        self.assertEqual(mender.step(), ((0, 0, 2), (1, 2, 0)))
        self.assertEqual((mender.left(), mender.wants()), (0, {}))
        self.assertEqual(mender.now(), Table(3, (((0, 2), 3), ((0, 2), 2))))

    def test_all_boxes_lost(self):
        mender, account = self.led(3, TOLD.blocks)
        for box in (1, 0, 2):
            self.lose(mender, account, box)
        self.assertEqual((mender.lost(), mender.gone_blocks(), mender.wants()), ((0, 1, 2), (0, 1), {}))
        self.assertEqual(mender.now(), Table(3, (((0,), 3), ((2,), 2))))
        for box in (0, 1, 2):
            self.renew(mender, account, box)
        self.assertEqual((mender.lost(), mender.gone_blocks(), mender.left()), ((), (0, 1), 0))

    def test_great_tables(self):
        chance = random.Random(175)
        table = Table(120, random_blocks(chance, 120, 360, 12, 9))
        mender, account = Mender(table), Account(120, table.blocks)
        for box in chance.sample(range(120), 6):
            self.lose(mender, account, box)
            self.step(mender, account)
        while mender.left():
            self.step(mender, account)
        self.assertEqual(mender.wants(), {})


class TestErrors(unittest.TestCase):
    def test_no_box(self):
        mender = Mender(TOLD)
        for lost in ((), (1,), (0, 2)):
            for box in lost:
                mender.lose(box)
            before = told_by(mender)
            for box in (*odd_things(), -1, 3, 4, 120, 10 ** 59, True, False, "0", (0,), [0], ()):
                for deed in (mender.lose, mender.renew):
                    with self.assertRaises(NoBox) as caught:
                        deed(box)
                    self.assertIs(type(caught.exception), NoBox)
            self.assertEqual(told_by(mender), before)

    def test_is_down_and_is_up(self):
        mender = Mender(Table(5, (((0, 1), 3), ((1, 2), 2), ((0, 1), 1))))
        for lost, left in (((1,), (0, 2, 3, 4)), ((0,), (2, 3, 4)), ((2, 3, 4), ())):
            for box in lost:
                mender.lose(box)
            before = told_by(mender)
            for box in lost:
                with self.assertRaises(IsDown) as caught:
                    mender.lose(box)
                self.assertIs(type(caught.exception), IsDown)
            for box in left:
                with self.assertRaises(IsUp) as caught:
                    mender.renew(box)
                self.assertIs(type(caught.exception), IsUp)
            self.assertEqual(told_by(mender), before)


class TestApart(Led):
    def test_copies_go_on_apart(self):
        chance = random.Random(176)
        for _ in range(60):
            boxes = chance.randint(2, 6)
            mender, account = self.led(boxes, random_blocks(chance, boxes, chance.randint(1, 6), 4, 9))
            self.drive(chance, (mender,), boxes, 10)
            other = mender.copy()
            self.assertIs(type(other), Mender)
            before = told_by(mender)
            self.assertEqual(told_by(other), before)
            self.drive(chance, (other,), boxes, 10)
            self.assertEqual(told_by(mender), before)
            kept = told_by(other)
            self.drive(chance, (mender,), boxes, 10)
            self.assertEqual(told_by(other), kept)
            self.drive(chance, (mender, mender.copy()), boxes, 10)

    def drive(self, chance, alike, boxes, many):
        """Drawn deeds on one mender, or on some that are alike and stay so."""
        for _ in range(many):
            name = chance.choice(("lose", "renew", "step", "step"))
            args = () if name == "step" else (chance.randrange(boxes),)
            found = []
            for mender in alike:
                try:
                    found.append(getattr(mender, name)(*args))
                except errors.CopyError as error:
                    found.append(type(error))
            self.assertEqual(found, found[:1] * len(found))
            self.assertEqual([told_by(mender) for mender in alike], [told_by(alike[0])] * len(alike))

    def test_what_is_returned_is_new(self):
        mender = Mender(TOLD)
        mender.lose(1)
        one = mender.wants()
        self.assertEqual(one, {0: 1, 1: 1})
        one.clear()
        one[5] = 5
        self.assertEqual(mender.wants(), {0: 1, 1: 1})
        self.assertIsNot(mender.wants(), mender.wants())
        for name in ("plan", "lost", "gone_blocks"):
            self.assertIs(type(getattr(mender, name)()), tuple)

    def test_arguments_stay_as_they_are(self):
        table = Table(3, TOLD.blocks)
        mender = Mender(table)
        mender.lose(1)
        mender.step()
        mender.renew(1)
        self.assertEqual(vars(table), vars(TOLD))
        things = plain_things()
        kept = copies_of(things)
        for thing in things:
            self.assertRaises(NoBox, mender.lose, thing)
        self.assertEqual(things, kept)

    def test_equal_deeds_give_equal_answers(self):
        chance = random.Random(177)
        for _ in range(30):
            boxes = chance.randint(2, 6)
            table = Table(boxes, random_blocks(chance, boxes, chance.randint(1, 8), 4, 9))
            self.drive(chance, (Mender(table), Mender(table)), boxes, 20)

    def test_the_interface(self):
        self.assertEqual(Mender.__module__, "roundcopies.menders")
        for name in ("lose", "renew", "plan", "left", "step", "now", "lost", "gone_blocks", "wants", "copy"):
            self.assertIn(name, vars(menders.Mender))
        for thing in (*odd_things(), Mender(TOLD), TOLD):
            self.assertFalse(Mender(TOLD) == thing)


if __name__ == "__main__":
    unittest.main()
