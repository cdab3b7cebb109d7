"""Texts of tables and layouts, line by line."""

import random
import unittest

from brute import random_blocks, random_kinds
from odd import copies_of
from roundcopies import texts
from roundcopies.layouts import Layout
from roundcopies.sheets import Sheet
from roundcopies.tables import Table
from roundcopies.texts import layout_text, table_text

TOLD = Table(3, (((0, 1), 3), ((1, 2), 2)))


def some_tables():
    """Tables of the least and the greatest sizes, and drawn ones."""
    chance = random.Random(120)
    tables = [Table(1, (((0,), 1),)), Table(1, (((0,), 10 ** 6),)), Table(120, (((119,), 1),)), TOLD,
              Table(120, ((tuple(range(120)), 10 ** 6),) * 360), Table(120, tuple([((box,), 1) for box in range(120)])),
              Table(2, (((0,), 1), ((1,), 1))), Table(2, (((1,), 1), ((0,), 1))), Table(2, (((0, 1), 1),)),
              Table(3, (((0,), 1), ((1,), 1))), Table(3, (((0, 1), 1),)), Table(3, (((0,), 1), ((0, 1), 1))),
              Table(11, (((1,), 11),)), Table(11, (((1,), 1),)), Table(11, (((1, 1 + 9), 1),)), Table(12, (((1,), 1),))]
    for _ in range(60):
        boxes = chance.choice((1, 2, 3, 10, 11, 99, 100, 120))
        tables.append(Table(boxes, random_blocks(chance, boxes, chance.choice((1, 2, 10, 360)), 12, 10 ** 6)))
    return tables


def some_layouts():
    """Layouts of the least and the greatest sizes, and drawn ones."""
    chance = random.Random(121)
    layouts = [Layout(Sheet((1,)), (((0,), 1),)), Layout(Sheet((1,)), (((0,), 10 ** 6),) * 3),
               Layout(Sheet((120,)), ((tuple(range(112, 120)), 10 ** 6),) * 3), Layout(Sheet((1, 1)), (((0,), 1),)),
               Layout(Sheet((1, 1, 1)), (((0,), 1),)), Layout(Sheet((2, 3)), (((0, 5), 7), ((1,), 2))),
               Layout(Sheet((3, 2)), (((0, 5), 7), ((1,), 2))), Layout(Sheet((6,)), (((0, 5), 7), ((1,), 2))),
               Layout(Sheet((6,)), (((1,), 2), ((0, 5), 7))), Layout(Sheet((1, 120, 1)), (((0, 119), 1),))]
    for _ in range(60):
        sheet = Sheet(chance.choice(((7,), (120,), (2, 3), (10, 12), (2, 2, 30), (4, 5, 6), (11,))))
        layouts.append(Layout(sheet, random_kinds(chance, sheet.places, chance.randint(1, 3), 10 ** 6)))
    return layouts


class TestTexts(unittest.TestCase):
    def assert_lines(self, text, rows):
        """The lines of a text, word by word."""
        self.assertIs(type(text), str)
        self.assertEqual(text[-1], "\n")
        lines = text[:-1].split("\n")
        self.assertEqual([line.split(" ") for line in lines], [[row[0], *map(str, row[1:])] for row in rows])

    def test_tables(self):
        for table in some_tables():
            rows = [("boxes", table.boxes), *[("block", weight, *lot) for lot, weight in table.blocks]]
            self.assert_lines(table_text(table), rows)

    def test_layouts(self):
        for layout in some_layouts():
            rows = [("sheet", *layout.sheet.moduli), *[("kind", weight, *steps) for steps, weight in layout.kinds]]
            self.assert_lines(layout_text(layout), rows)

    def test_by_hand(self):
        self.assertEqual(table_text(TOLD), "boxes 3\nblock 3 0 1\nblock 2 1 2\n")
        self.assertEqual(table_text(Table(120, (((0, 10, 119), 10 ** 6),))), "boxes 120\nblock 1000000 0 10 119\n")
        self.assertEqual(layout_text(Layout(Sheet((8,)), (((0, 4), 1),))), "sheet 8\nkind 1 0 4\n")
        layout = Layout(Sheet((2, 3, 20)), (((0, 100), 20), ((119,), 1000)))
        self.assertEqual(layout_text(layout), "sheet 2 3 20\nkind 20 0 100\nkind 1000 119\n")

    def test_equal_things_have_equal_texts_and_unlike_things_unlike_ones(self):
        for things, text_of in ((some_tables(), table_text), (some_layouts(), layout_text)):
            found = [text_of(thing) for thing in things]
            for one, text in zip(things, found):
                for other, other_text in zip(things, found):
                    self.assertEqual(one == other, text == other_text)
        self.assertEqual(table_text(Table(3, (((0, 1), 3), ((1, 2), 2)))), table_text(TOLD))
        for sheet in ((4,), (2, 2), (1, 4)):
            self.assertEqual(layout_text(Layout(Sheet(sheet), (((0,), 1),))), layout_text(Layout(Sheet(sheet), (((0,), 1),))))

    def test_arguments_stay_as_they_are(self):
        table, layout = Table(3, TOLD.blocks), Layout(Sheet((8,)), (((0, 4), 1),))
        kept = copies_of([vars(table), layout.kinds, vars(layout.sheet)])
        table_text(table)
        layout_text(layout)
        self.assertEqual([vars(table), layout.kinds, vars(layout.sheet)], kept)

    def test_names_are_defined_here(self):
        for name in ("table_text", "layout_text"):
            self.assertEqual(getattr(texts, name).__module__, "roundcopies.texts")


if __name__ == "__main__":
    unittest.main()
