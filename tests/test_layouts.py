"""Layouts, their tables, and the way back from a table."""

import itertools
import random
import unittest
from unittest import mock

from brute import laid, random_kinds
from odd import copies_of, odd_things, plain_things
from roundcopies import layouts
from roundcopies.errors import BadLayout
from roundcopies.layouts import Layout, copies, layout_of, table_of
from roundcopies.sheets import Sheet
from roundcopies.tables import Table

KIND = ((0,), 1)
RING = Sheet((10,))
SHEETS = ((1,), (2,), (7,), (8,), (1, 1), (1, 5), (2, 3), (3, 2), (4, 4), (1, 1, 1), (2, 2, 2), (2, 1, 3), (3, 2, 4))
LARGE = ((120,), (10, 12), (12, 10), (4, 5, 6), (2, 6, 10), (1, 120), (119,))


class TestLayout(unittest.TestCase):
    def assert_bad(self, part, sheet, kinds):
        with self.assertRaises(BadLayout) as caught:
            Layout(sheet, kinds)
        self.assertIs(type(caught.exception), BadLayout)
        self.assertEqual(caught.exception.part, part)
        self.assertIs(type(caught.exception.part), type(part))

    def test_attributes(self):
        kinds = (((0, 4), 1), ((1, 2, 3), 7))
        layout = Layout(RING, kinds)
        self.assertEqual(layout.sheet, Sheet((10,)))
        self.assertIs(type(layout.sheet), Sheet)
        self.assertEqual(layout.kinds, (((0, 4), 1), ((1, 2, 3), 7)))
        self.assertIs(type(layout.kinds), tuple)

    def test_a_sheet_is_a_sheet(self):
        things = [thing for thing in odd_things() if type(thing) is not Sheet]
        for thing in (*things, 0, 1, (8,), [8], (2, 3), Table(3, (KIND,)), Layout(RING, (KIND,)), Sheet,
                      mock.Mock(moduli=(8,), places=8)):
            self.assert_bad("sheet", thing, (KIND,))
            self.assert_bad("sheet", thing, ())
            self.assert_bad("sheet", thing, None)

    def test_how_many_kinds(self):
        for many in (1, 2, 3):
            self.assertEqual(Layout(RING, (KIND,) * many).kinds, (KIND,) * many)
        for many in (0, 4, 5, 100, 10000):
            self.assert_bad("kinds", RING, (KIND,) * many)
        self.assert_bad("kinds", RING, (None,) * 4)

    def test_kinds_are_a_tuple(self):
        odd = [thing for thing in odd_things() if type(thing) is not tuple]
        for kinds in (*odd, [KIND], [], {0: KIND}, {KIND: 1}, iter((KIND,)), 1, 0, KIND[1], Layout(RING, (KIND,))):
            self.assert_bad("kinds", RING, kinds)

    def test_the_first_thing_that_is_no_kind(self):
        wrong = ((), 1)
        for many in (1, 2, 3):
            for at in range(many):
                kinds = [KIND] * many
                kinds[at] = wrong
                self.assert_bad(at, RING, tuple(kinds))
                self.assert_bad(at, RING, tuple(kinds[:at]) + (wrong,) * (many - at))

    def test_kinds_are_pairs_that_are_tuples(self):
        for thing in (*odd_things(), (), ((0,),), ((0,), 1, 1), [(0,), 1], ((0,), 1, None), (0,), 0, 1, (1, (0,)),
                      (((0,), 1),), KIND * 2, {(0,): 1}, "01"):
            self.assert_bad(0, RING, (thing,))
            self.assert_bad(1, RING, (KIND, thing))
            self.assert_bad(2, RING, (KIND, KIND, thing))

    def test_how_many_steps(self):
        for many in range(1, 9):
            kinds = ((tuple(range(many)), 1),)
            self.assertEqual(Layout(RING, kinds).kinds, kinds)
        for steps in ((), tuple(range(9)), tuple(range(10))):
            self.assert_bad(0, RING, ((steps, 1),))
            self.assert_bad(1, RING, (KIND, (steps, 1), (steps, 1)))
        self.assert_bad(0, Sheet((120,)), ((tuple(range(120)), 1),))

    def test_steps_are_places_of_the_sheet(self):
        for moduli in ((1,), (2,), (7,), (2, 3), (2, 2, 2), (120,)):
            sheet = Sheet(moduli)
            last = sheet.places - 1
            self.assertEqual(Layout(sheet, (((last,), 1),)).kinds, (((last,), 1),))
            self.assert_bad(0, sheet, (((sheet.places,), 1),))
            self.assert_bad(0, sheet, (((0, sheet.places), 1),))
        self.assert_bad(0, Sheet((7,)), ((tuple(range(8)), 1),))

    def test_steps_that_are_no_lot(self):
        for steps in (*odd_things(), (1, 0), (0, 2, 1), (0, 0), (0, 1, 1), (-1, 0), (-1,), (10,), (0, 10), (True,),
                      (False,), (0, True), (False, 1), [0], [0, 1], 0, "0", ("0",), ((0,),), range(1), None, {0: 0}):
            self.assert_bad(0, RING, ((steps, 1),))
            self.assert_bad(2, RING, (KIND, KIND, (steps, 1)))

    def test_odd_things_among_steps(self):
        for thing in odd_things():
            self.assert_bad(0, RING, (((thing,), 1),))
            self.assert_bad(1, RING, (KIND, ((0, thing), 1)))

    def test_weights(self):
        for weight in (1, 2, 999999, 10 ** 6):
            self.assertEqual(Layout(RING, (((0,), weight),)).kinds, (((0,), weight),))
        for weight in (*odd_things(), 0, -1, 10 ** 6 + 1, 10 ** 7, 10 ** 59, True, False, "1", (1,), [1], None, ()):
            self.assert_bad(0, RING, (((0,), weight),))
            self.assert_bad(1, RING, (KIND, ((0,), weight)))

    def test_errors_in_the_order_named(self):
        self.assert_bad("sheet", None, [None])
        self.assert_bad("kinds", RING, [None])
        self.assert_bad(0, RING, (None, None))
        self.assert_bad(1, RING, (KIND, None, None))

    def test_equal_just_if_both_are(self):
        kinds = [(KIND,), (KIND, KIND), (((0,), 2),), (((1,), 1),), (((0, 1), 1),), (((0, 1), 1), KIND),
                 (KIND, ((0, 1), 1))]
        made = [(moduli, kind) for moduli in ((4,), (2, 2), (5,), (1, 4)) for kind in kinds]
        for one, other in itertools.product(made, repeat=2):
            self.assertIs(Layout(Sheet(one[0]), one[1]) == Layout(Sheet(other[0]), other[1]), one == other)
            self.assertIs(Layout(Sheet(one[0]), one[1]) != Layout(Sheet(other[0]), other[1]), one != other)

    def test_equal_to_no_other_kind(self):
        layout = Layout(RING, (KIND,))
        lookalike = mock.Mock(sheet=RING, kinds=(KIND,))
        for thing in (*odd_things(), (RING, (KIND,)), RING, (KIND,), table_of(layout), lookalike, mock.ANY):
            self.assertIs(layout == thing, False)
            self.assertIs(layout != thing, True)
        self.assertFalse(lookalike == layout)
        self.assertFalse((RING, (KIND,)) == layout)


class TestTableOf(unittest.TestCase):
    def test_against_sums_reckoned_here(self):
        chance = random.Random(1)
        for moduli in SHEETS + LARGE:
            sheet = Sheet(moduli)
            for many in (1, 2, 3):
                kinds = random_kinds(chance, sheet.places, many, 10 ** 6)
                table = table_of(Layout(sheet, kinds))
                self.assertIs(type(table), Table)
                self.assertEqual(table.boxes, sheet.places)
                self.assertEqual(table.blocks, laid(moduli, kinds))

    def test_blocks_are_numbered_kind_by_kind(self):
        table = table_of(Layout(Sheet((2, 2)), (((1,), 5), ((0, 3), 7))))
        self.assertEqual(table.blocks, (((1,), 5), ((0,), 5), ((3,), 5), ((2,), 5),
                                        ((0, 3), 7), ((1, 2), 7), ((1, 2), 7), ((0, 3), 7)))

    def test_the_example(self):
        table = table_of(Layout(Sheet((3,)), (((0, 1), 1),)))
        self.assertEqual(table, Table(3, (((0, 1), 1), ((1, 2), 1), ((0, 2), 1))))

    def test_the_greatest(self):
        kinds = ((tuple(range(8)), 10 ** 6), (tuple(range(112, 120)), 1), ((0, 60), 3))
        table = table_of(Layout(Sheet((120,)), kinds))
        self.assertEqual((table.boxes, len(table.blocks)), (120, 360))
        self.assertEqual(table.blocks[119], ((0, 1, 2, 3, 4, 5, 6, 119), 10 ** 6))
        self.assertEqual(table.blocks[359], ((59, 119), 3))


class TestCopies(unittest.TestCase):
    def test_the_fewest_steps(self):
        for sizes in itertools.chain(*[itertools.product((1, 2, 3, 8), repeat=many) for many in (1, 2, 3)]):
            layout = Layout(RING, tuple([(tuple(range(size)), 10 - size) for size in sizes]))
            self.assertEqual(copies(layout), min(sizes))
            self.assertIs(type(copies(layout)), int)

    def test_the_example(self):
        self.assertEqual(copies(Layout(Sheet((8,)), (((0, 4), 1),))), 2)


class TestLayoutOf(unittest.TestCase):
    def test_back_on_the_same_sheet(self):
        chance = random.Random(2)
        for moduli in SHEETS + LARGE:
            for many in (1, 2, 3):
                layout = Layout(Sheet(moduli), random_kinds(chance, Sheet(moduli).places, many, 99))
                found = layout_of(Sheet(moduli), table_of(layout))
                self.assertIs(type(found), Layout)
                self.assertEqual((found.sheet, found.kinds), (layout.sheet, layout.kinds))

    def test_on_other_sheets_of_as_many_places(self):
        chance = random.Random(3)
        told = {True: 0, False: 0}
        groups = (((4,), (2, 2), (1, 4)), ((6,), (2, 3), (3, 2)), ((8,), (2, 4), (4, 2), (2, 2, 2)), ((5,), (1, 5, 1)))
        for group in groups:
            for one, other in itertools.product(group, repeat=2):
                for _ in range(12):
                    many = chance.randint(1, 2)
                    kinds = random_kinds(chance, Sheet(one).places, many, 3)
                    blocks = laid(one, kinds)
                    right = laid(other, kinds) == blocks
                    told[right] += 1
                    found = layout_of(Sheet(other), Table(Sheet(one).places, blocks))
                    self.assertEqual(found, Layout(Sheet(other), kinds) if right else None)
        self.assertTrue(min(told.values()) > 50, told)

    def test_sheets_of_other_places(self):
        table = table_of(Layout(Sheet((6,)), (((0, 1), 1), ((2,), 1))))
        for moduli in ((1,), (2,), (3,), (4,), (12,), (7,), (120,)):
            self.assertIs(layout_of(Sheet(moduli), table), None)

    def test_one_thing_otherwise(self):
        for moduli, kinds in (((5,), (((0, 1), 2),)), ((2, 3), (((0, 4), 2), ((1, 2, 5), 3))),
                              ((2, 2), (((0,), 1), ((3,), 1), ((0, 1, 2), 1)))):
            sheet = Sheet(moduli)
            blocks = laid(moduli, kinds)
            for at, (lot, weight) in enumerate(blocks):
                others = [(lot, weight + 1), (tuple(sorted({*lot} ^ {at % sheet.places})) or (1,), weight),
                          (tuple([(box + 1) % sheet.places for box in lot]), weight)]
                for other in others:
                    changed = (*blocks[:at], (tuple(sorted(other[0])), other[1]), *blocks[at + 1:])
                    if changed != blocks:
                        self.assertIs(layout_of(sheet, Table(sheet.places, changed)), None)
                less = blocks[:at] + blocks[at + 1:]
                self.assertIs(layout_of(sheet, Table(sheet.places, less)), None)
                self.assertIs(layout_of(sheet, Table(sheet.places, (*blocks, blocks[at]))), None)

    def test_too_many_kinds(self):
        blocks = laid((3,), (((0, 1), 1),) * 3)
        self.assertEqual(layout_of(Sheet((3,)), Table(3, blocks)), Layout(Sheet((3,)), (((0, 1), 1),) * 3))
        self.assertIs(layout_of(Sheet((3,)), Table(3, laid((3,), (((0, 1), 1),) * 4))), None)
        self.assertIs(layout_of(Sheet((1,)), Table(1, (KIND,) * 4)), None)

    def test_too_many_steps(self):
        for many in (8, 9, 10):
            table = Table(10, laid((10,), ((tuple(range(many)), 1),)))
            self.assertEqual(layout_of(RING, table), None if many > 8 else Layout(RING, ((tuple(range(8)), 1),)))

    def test_one_of_several_kinds_is_none(self):
        for at in range(3):
            kinds = [((0, 1), 1), ((0, 2), 1), ((3,), 1)]
            kinds[at] = (tuple(range(9)), 1)
            for many in range(at + 1, 4):
                self.assertIs(layout_of(RING, Table(10, laid((10,), tuple(kinds[:many])))), None)

    def test_fewer_blocks_than_places(self):
        self.assertIs(layout_of(Sheet((3,)), Table(3, (KIND,))), None)
        self.assertIs(layout_of(Sheet((3,)), Table(3, (((0, 1), 1), ((1, 2), 1)))), None)


class TestNothingChanges(unittest.TestCase):
    def test_layouts_stay_as_they_are(self):
        kinds = (((0, 4), 1), ((1, 2), 3))
        layout = Layout(RING, kinds)
        table = table_of(layout)
        copies(layout)
        layout_of(RING, table)
        self.assertEqual(kinds, (((0, 4), 1), ((1, 2), 3)))
        self.assertEqual(vars(layout), {"sheet": Sheet((10,)), "kinds": kinds})
        self.assertEqual(vars(table), vars(table_of(Layout(Sheet((10,)), kinds))))

    def test_wrong_arguments_stay_as_they_are(self):
        things = plain_things()
        kept = copies_of(things)
        for thing in things:
            for arguments in ((thing, (KIND,)), (RING, thing), (RING, (thing,)), (RING, ((thing, 1),))):
                with self.assertRaises(BadLayout):
                    Layout(*arguments)
        self.assertEqual(things, kept)

    def test_equal_calls_give_equal_answers(self):
        one, other = [Layout(Sheet((2, 3)), (((0, 1), 2), ((3, 4, 5), 1))) for _ in range(2)]
        self.assertEqual(one, other)
        self.assertEqual(table_of(one), table_of(other))
        self.assertEqual(layout_of(one.sheet, table_of(one)), layout_of(other.sheet, table_of(other)))


class TestInterface(unittest.TestCase):
    def test_names_are_defined_here(self):
        for name in ("Layout", "table_of", "copies", "layout_of"):
            self.assertEqual(getattr(layouts, name).__module__, "roundcopies.layouts")
        self.assertIn("__eq__", vars(Layout))


if __name__ == "__main__":
    unittest.main()
