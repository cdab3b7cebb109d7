"""Levels: relayings against all that there are, and by the test's own counts."""

import itertools
import random
import unittest

from brute import laid, random_blocks, random_kinds
from odd import copies_of, nested, odd_things, plain_things
from roundcopies import levels
from roundcopies.errors import NoNumber
from roundcopies.levels import fewest_moves, grown, is_level, is_relaying, relaid, relaying
from roundcopies.tables import Table

TOLD = Table(3, (((0, 1), 3), ((1, 2), 2)))
HEAPED = Table(2, (((0,), 1), ((0,), 1)))


def held(boxes, lots):
    """How many copies each box holds."""
    return [sum([box in lot for lot in lots]) for box in range(boxes)]


def level(boxes, lots):
    """All copies divided by the boxes, rounded up."""
    return -(-sum([len(lot) for lot in lots]) // boxes)


def is_right_relaying(boxes, blocks, thing):
    """Whether a thing is a relaying, by the words of the document."""
    if type(thing) is not tuple or len(thing) != len(blocks):
        return False
    for lot, (old, _) in zip(thing, blocks):
        if type(lot) is not tuple or any([type(box) is not int or not 0 <= box < boxes for box in lot]):
            return False
        if list(lot) != sorted(set(lot)) or len(lot) != len(old):
            return False
    return max(held(boxes, thing)) <= level(boxes, thing)


def moves_of(blocks, lots):
    """How many boxes blocks have that they had not."""
    return sum([len(set(lot) - set(old)) for lot, (old, _) in zip(lots, blocks)])


def great_tables():
    """Up to 360 blocks heaped on a few of 120 boxes."""
    chance = random.Random(160)
    for blocks, most in ((360, 1), (360, 3), (360, 60), (100, 100), (1, 120), (359, 7)):
        yield Table(120, tuple([(tuple(sorted(chance.sample(range(most), chance.randint(1, most)))), 1)
                                for _ in range(blocks)]))
    yield Table(120, ((tuple(range(60)), 1),) * 360)
    yield Table(120, ((tuple(range(120)), 1),) * 360)
    yield Table(120, random_blocks(chance, 120, 360, 100, 10 ** 6))
    yield Table(119, (((118,), 1),) * 360)
    yield Table(1, (((0,), 1),) * 360)


class TestLevels(unittest.TestCase):
    def assert_right(self, table):
        """A relaying of just as many moves as boxes hold above the level."""
        lots = [lot for lot, _ in table.blocks]
        most = level(table.boxes, lots)
        counts = held(table.boxes, lots)
        right = sum([max(0, many - most) for many in counts])
        self.assertIs(is_level(table), max(counts) <= most)
        self.assertEqual((fewest_moves(table), type(fewest_moves(table))), (right, int))
        found = relaying(table)
        self.assertTrue(is_right_relaying(table.boxes, table.blocks, found))
        self.assertIs(is_relaying(table, found), True)
        self.assertEqual(moves_of(table.blocks, found), right)
        new = relaid(table)
        self.assertIs(type(new), Table)
        self.assertEqual((new.boxes, new.blocks), (table.boxes, tuple([
            (lot, weight) for lot, (_, weight) in zip(found, table.blocks)])))
        self.assertIs(is_level(new), True)
        self.assertEqual((fewest_moves(new), relaid(new)), (0, new))
        return right

    def test_drawn_tables(self):
        chance = random.Random(161)
        seen = {}
        for _ in range(400):
            boxes = chance.randint(1, 8)
            table = Table(boxes, random_blocks(chance, chance.randint(1, boxes), chance.randint(1, 12), 6, 9))
            many = min(4, self.assert_right(table))
            seen[many] = seen.get(many, 0) + 1
        self.assertTrue(min([seen.get(many, 0) for many in range(5)]) > 15, seen)

    def test_no_relaying_has_fewer_moves(self):
        chance = random.Random(162)
        seen = {}
        tried = 0
        while tried < 150:
            boxes = chance.randint(1, 5)
            blocks = random_blocks(chance, chance.randint(1, boxes), chance.randint(1, 5), 3, 9)
            rows = [list(itertools.combinations(range(boxes), len(lot))) for lot, _ in blocks]
            many = 1
            for row in rows:
                many *= len(row)
            if many <= 3000:
                table = Table(boxes, blocks)
                found = [lots for lots in itertools.product(*rows) if is_right_relaying(boxes, blocks, lots)]
                fewest = min([moves_of(blocks, lots) for lots in found])
                self.assertEqual(self.assert_right(table), fewest)
                for lots in chance.sample(found, min(5, len(found))):
                    self.assertIs(is_relaying(table, lots), True)
                seen[fewest] = seen.get(fewest, 0) + 1
                tried += 1
        self.assertTrue(min([seen.get(many, 0) for many in (0, 1, 2)]) > 10, seen)

    def test_great_tables(self):
        for table in great_tables():
            self.assert_right(table)

    def test_layouts_are_level(self):
        chance = random.Random(163)
        for moduli, places in (((7,), 7), ((3, 4), 12), ((2, 2, 5), 20), ((120,), 120)):
            table = Table(places, laid(moduli, random_kinds(chance, places, 2, 9)))
            self.assertEqual(self.assert_right(table), 0)
            self.assertEqual(relaying(table), tuple([lot for lot, _ in table.blocks]))

    def test_tables_that_are_level_stay(self):
        for table in (TOLD, Table(1, (((0,), 1),)), Table(120, ((tuple(range(120)), 1),) * 3), Table(5, (((1, 3), 2),)),
                      Table(3, (((0,), 1), ((2,), 9), ((0,), 1), ((1,), 1), ((2,), 1)))):
            self.assertIs(is_level(table), True)
            self.assertEqual(fewest_moves(table), 0)
            self.assertEqual(relaying(table), tuple([lot for lot, _ in table.blocks]))
            self.assertEqual(relaid(table), table)

    def test_by_hand(self):
        self.assertIs(is_level(HEAPED), False)
        self.assertEqual(fewest_moves(HEAPED), 1)
        self.assertIn(relaying(HEAPED), (((0,), (1,)), ((1,), (0,))))
        # Weights mean nothing: boxes hold copies.
        self.assertIs(is_level(Table(2, (((0,), 10 ** 6), ((1,), 1)))), True)
        # Rounded up: three copies on two boxes let one box hold two.
        self.assertIs(is_level(Table(2, (((0,), 1), ((0,), 1), ((1,), 1)))), True)
        self.assertIs(is_level(Table(2, (((0,), 1),) * 3)), False)
        self.assertIs(is_level(Table(3, (((0,), 1),) * 4)), False)
        self.assertEqual(fewest_moves(Table(3, (((0,), 1),) * 4)), 2)
        self.assertEqual(fewest_moves(Table(3, (((0, 1), 1),) * 3)), 2)


class TestIsRelaying(unittest.TestCase):
    def test_one_thing_otherwise(self):
        chance = random.Random(164)
        seen = {True: 0, False: 0}
        for _ in range(150):
            boxes = chance.randint(2, 6)
            blocks = random_blocks(chance, chance.randint(1, boxes), chance.randint(1, 8), 4, 9)
            table = Table(boxes, blocks)
            right = relaying(table)
            for at, lot in enumerate(right):
                others = [lot[:-1], (*lot, boxes), (*lot, boxes - 1), (0, *lot), lot[::-1], lot * 2, list(lot), (), lot[0],
                          lot[:-1] + (boxes,), lot[:-1] + (-1,), lot[:-1] + (boxes - 1,), lot[:-1] + (True,), None, (lot,),
                          lot[:-1] + (None,), {box: True for box in lot}, "".join(map(str, lot))]
                others += list(itertools.combinations(range(boxes), len(lot)))
                for other in others:
                    thing = right[:at] + (other,) + right[at + 1:]
                    due = is_right_relaying(boxes, blocks, thing)
                    self.assertIs(is_relaying(table, thing), due, (blocks, thing))
                    seen[due] += 1
            for thing in (right[:-1], (*right, right[0]), list(right), (right,), {at: lot for at, lot in enumerate(right)}):
                self.assertIs(is_relaying(table, thing), False)
        self.assertTrue(min(seen.values()) > 500, seen)

    def test_whatever_its_moves(self):
        self.assertIs(is_relaying(HEAPED, ((1,), (0,))), True)
        self.assertIs(is_relaying(HEAPED, ((0,), (1,))), True)
        self.assertIs(is_relaying(HEAPED, ((0,), (0,))), False)
        self.assertIs(is_relaying(HEAPED, ((1,), (1,))), False)
        table = Table(4, (((0, 1), 1), ((2, 3), 1)))
        for lots in (((0, 1), (2, 3)), ((2, 3), (0, 1)), ((0, 3), (1, 2)), ((1, 3), (0, 2))):
            self.assertIs(is_relaying(table, lots), True)
        for lots in (((0, 1), (0, 1)), ((0, 1), (1, 2)), ((0, 1, 2), (3,)), ((0,), (1, 2, 3)), ((0, 1, 2, 3), ())):
            self.assertIs(is_relaying(table, lots), False)

    def test_other_things(self):
        for thing in odd_things():
            for wrong in (thing, (thing,), (thing, thing), ((0,), thing), (thing, (1,)), ((0,), (thing,)), ((0,), (1,), thing)):
                self.assertIs(is_relaying(HEAPED, wrong), False)
        self.assertIs(is_relaying(HEAPED, nested(tuple, 40)), False)
        self.assertIs(is_relaying(HEAPED, ((0,),) * 20000), False)
        self.assertIs(is_relaying(HEAPED, ()), False)


class TestGrown(unittest.TestCase):
    def test_as_many_boxes_more(self):
        for boxes in (1, 2, 3, 60, 119, 120):
            table = Table(boxes, (((0,), 7), (tuple(range(boxes)), 2)))
            for more in {0, min(1, 120 - boxes), (120 - boxes) // 2, 120 - boxes}:
                found = grown(table, more)
                self.assertIs(type(found), Table)
                self.assertEqual((found.boxes, found.blocks), (boxes + more, table.blocks))
        self.assertEqual(grown(TOLD, 0), TOLD)
        self.assertEqual(grown(TOLD, 1), Table(4, TOLD.blocks))
        self.assertEqual(fewest_moves(grown(TOLD, 1)), 1)

    def test_no_number(self):
        for boxes in (1, 3, 120):
            table = Table(boxes, (((0,), 1),))
            for more in (*odd_things(), -1, 121 - boxes, 122 - boxes, 121, 10 ** 59, True, False, "1", (0,), [0], ()):
                with self.assertRaises(NoNumber) as caught:
                    grown(table, more)
                self.assertIs(type(caught.exception), NoNumber)


class TestNothingChanges(unittest.TestCase):
    def test_arguments_stay_as_they_are(self):
        table = Table(2, HEAPED.blocks)
        for call in (is_level, fewest_moves, relaying, relaid):
            self.assertEqual(call(table), call(HEAPED))
        grown(table, 5)
        self.assertEqual(vars(table), vars(HEAPED))
        things = plain_things()
        kept = copies_of(things)
        for thing in things:
            self.assertIs(is_relaying(HEAPED, thing), False)
            self.assertRaises(NoNumber, grown, HEAPED, thing)
        self.assertEqual(things, kept)

    def test_names_are_defined_here(self):
        for name in ("is_level", "is_relaying", "relaying", "fewest_moves", "grown", "relaid"):
            self.assertEqual(getattr(levels, name).__module__, "roundcopies.levels")


if __name__ == "__main__":
    unittest.main()
