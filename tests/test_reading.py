"""Texts read back: right ones, and ones with one or two things otherwise."""

import random
import re
import unittest

from odd import copies_of, odd_things, plain_things
from roundcopies import errors, reading
from roundcopies.errors import BadLayout, BadSheet, BadTable, BadText
from roundcopies.layouts import Layout
from roundcopies.reading import read_layout, read_table
from roundcopies.sheets import Sheet
from roundcopies.tables import Table
from roundcopies.texts import layout_text, table_text
from test_texts import some_layouts, some_tables

NUMBER = "(0|[1-9][0-9]{0,8})"
WORDS = ("boxes", "block", "sheet", "kind", "0", "1", "7", "120", "121", "1000001", "00", "01", "-1", "+1", "1.0", "", "a",
         "1234567890", "123456789", "block 1", "\t", "Boxes", "1e1")


def is_lot(thing, bound):
    """Whether numbers are ascending, and below a bound."""
    return all([one < bound for one in thing]) and all([one < other for one, other in zip(thing, thing[1:])])


def lines_right(text, head, other):
    """The numbers of all lines, or the line of the error: by patterns."""
    lines = text.split("\n")
    for at, line in enumerate(lines[:-1]):
        if not re.fullmatch(other if at else head, line):
            return at + 1
    if lines[-1] or len(lines) == 1:
        return text.count("\n") + 1
    return [[int(word) for word in line.split(" ")[1:]] for line in lines[:-1]]


def table_right(text):
    """A table, or the name and the field of the error."""
    rows = lines_right(text, f"boxes {NUMBER}", f"block( {NUMBER})+")
    if isinstance(rows, int):
        return ("BadText", rows)
    boxes, blocks = rows[0][0], rows[1:]
    if not 1 <= boxes <= 120:
        return ("BadTable", "boxes")
    if not 1 <= len(blocks) <= 360:
        return ("BadTable", "blocks")
    for at, (weight, *lot) in enumerate(blocks):
        if not lot or not is_lot(lot, boxes) or not 1 <= weight <= 10 ** 6:
            return ("BadTable", at)
    return Table(boxes, tuple([(tuple(lot), weight) for weight, *lot in blocks]))


def layout_right(text):
    """A layout, or the name and the field of the error."""
    rows = lines_right(text, f"sheet( {NUMBER})+", f"kind( {NUMBER})+")
    if isinstance(rows, int):
        return ("BadText", rows)
    places = 1
    for modulus in rows[0]:
        places *= modulus
    if len(rows[0]) > 3 or not all([1 <= modulus <= 120 for modulus in rows[0]]):
        return ("BadSheet", "moduli")
    if places > 120:
        return ("BadSheet", "places")
    if not 1 <= len(rows) - 1 <= 3:
        return ("BadLayout", "kinds")
    for at, (weight, *steps) in enumerate(rows[1:]):
        if not 1 <= len(steps) <= 8 or not is_lot(steps, places) or not 1 <= weight <= 10 ** 6:
            return ("BadLayout", at)
    return Layout(Sheet(tuple(rows[0])), tuple([(tuple(steps), weight) for weight, *steps in rows[1:]]))


def otherwise(chance, text):
    """A text with one thing otherwise."""
    lines = text.split("\n")
    at = chance.randrange(len(lines))
    words = lines[at].split(" ")
    place = chance.randrange(len(words))
    way = chance.randrange(12)
    if way == 0:
        del words[place]
    elif way == 1:
        words.insert(place, chance.choice(WORDS))
    elif way == 2:
        words.insert(place, words[place])
    elif way == 3:
        words[place] = chance.choice(WORDS)
    elif way == 4:
        other = chance.randrange(len(words))
        words[place], words[other] = words[other], words[place]
    elif way == 5:
        words[place] = chance.choice(("0", "+", "-", " ", "\t", "00")) + words[place]
    elif way == 6:
        words[place] = words[place] + chance.choice(("0", ".", " ", "\t", "x", "000000000"))
    lines[at] = " ".join(words)
    if way == 7:
        del lines[at]
    elif way == 8:
        lines.insert(at, chance.choice(("", "boxes 3", "block 1 0", "sheet 4", "kind 1 0", "block", " ", "kind 2 1")))
    elif way == 9:
        other = chance.randrange(len(lines))
        lines[at], lines[other] = lines[other], lines[at]
    elif way == 10:
        lines.insert(at, lines[at])
    elif way == 11:
        where = chance.randrange(len(text) + 1)
        return text[:where] + chance.choice(("", "\n", " ", "0", "a", "9")) + text[where + chance.randrange(2):]
    return "\n".join(lines)


class Reads(unittest.TestCase):
    def assert_reads(self, read, text, right):
        """The thing that a text tells, or the error that is due."""
        if not isinstance(right, tuple):
            found = read(text)
            self.assertIs(type(found), type(right))
            self.assertEqual(found, right, text)
            return
        with self.assertRaises(errors.CopyError) as caught:
            read(text)
        self.assertEqual(type(caught.exception).__name__, right[0], text[:200])
        field = list(vars(caught.exception).values())[0]
        self.assertEqual(field, right[1], text[:200])
        self.assertIs(type(field), type(right[1]))


class TestRightTexts(Reads):
    def test_tables(self):
        for table in some_tables():
            self.assert_reads(read_table, table_text(table), table)
            self.assertEqual(table_text(read_table(table_text(table))), table_text(table))

    def test_layouts(self):
        for layout in some_layouts():
            self.assert_reads(read_layout, layout_text(layout), layout)
            self.assertEqual(layout_text(read_layout(layout_text(layout))), layout_text(layout))

    def test_kinds_of_values(self):
        table = read_table("boxes 3\nblock 3 0 1\nblock 2 1 2\n")
        self.assertEqual((table.boxes, table.blocks), (3, (((0, 1), 3), ((1, 2), 2))))
        layout = read_layout("sheet 2 4\nkind 3 0 7\nkind 1 2\n")
        self.assertEqual((layout.sheet.moduli, layout.kinds), ((2, 4), (((0, 7), 3), ((2,), 1))))
        self.assertEqual((type(layout.sheet.moduli), type(layout.kinds), type(layout.kinds[0])), (tuple,) * 3)


class TestOtherTexts(Reads):
    def test_one_or_two_things_otherwise(self):
        chance = random.Random(130)
        seen = {}
        short = [table for table in some_tables() if len(table.blocks) < 12]
        for read, right_of, texts in ((read_table, table_right, [table_text(table) for table in short]),
                                      (read_layout, layout_right, [layout_text(layout) for layout in some_layouts()])):
            for _ in range(6000):
                text = chance.choice(texts)
                for _ in range(chance.randint(1, 2)):
                    text = otherwise(chance, text)
                right = right_of(text)
                self.assert_reads(read, text, right)
                name = (read, right[0] if isinstance(right, tuple) else "read")
                seen[name] = seen.get(name, 0) + 1
        for name in ((read_table, "BadText"), (read_table, "BadTable"), (read_table, "read"), (read_layout, "BadText"),
                     (read_layout, "BadSheet"), (read_layout, "BadLayout"), (read_layout, "read")):
            self.assertGreater(seen.get(name, 0), 30, name)

    def test_great_texts_otherwise(self):
        chance = random.Random(131)
        text = table_text(Table(120, ((tuple(range(50)), 10 ** 6),) * 360))
        for _ in range(25):
            other = otherwise(chance, text)
            self.assert_reads(read_table, other, table_right(other))

    def test_lines_by_hand(self):
        for text, line in (("", 1), ("\n", 1), ("boxes 3", 1), ("boxes", 1), ("boxes\n", 1), ("boxes 3 4\n", 1),
                           ("boxes 3\nblock 1 0", 2), ("boxes 3\nblock 1 0\nx", 3), ("boxes 3\nblock 1 0\n ", 3),
                           ("boxes 3\nblock 1 0\n\n", 3), ("boxes 3\n\nblock 1 0\n", 2), ("\nboxes 3\nblock 1 0\n", 1),
                           ("boxes 3\nboxes 3\nblock 1 0\n", 2), ("block 1 0\n", 1), ("block 1 0\nboxes 3\n", 1),
                           ("boxes 3\nblock\n", 2), ("boxes 3\nblock \n", 2), ("boxes 3\nblock 1  0\n", 2),
                           ("boxes 3\nblock 1 0 \n", 2), ("boxes 3\n block 1 0\n", 2), ("boxes 3\nblock\t1 0\n", 2),
                           ("boxes  3\nblock 1 0\n", 1), ("boxes 3 \nblock 1 0\n", 1), (" boxes 3\nblock 1 0\n", 1),
                           ("boxes 03\nblock 1 0\n", 1), ("boxes +3\nblock 1 0\n", 1), ("boxes -3\nblock 1 0\n", 1),
                           ("boxes 0000000003\n", 1), ("boxes 1000000000\n", 1), ("boxes 3\nblock 1 1000000000\n", 2),
                           ("boxes 3\nblock 1 00\n", 2), ("boxes 3\nblock 01 0\n", 2), ("boxes 3\nblock 1 0\nkind 1 0\n", 3),
                           ("boxes 3\nblock 1 0\nblock x\nfoo", 3), ("foo\nblock 1 0\nbar", 1), ("boxes 3\nblock -1 0\n", 2),
                           ("sheet 3\nblock 1 0\n", 1), ("Boxes 3\n", 1), ("boxes 3\nBLOCK 1 0\n", 2), ("boxes 3:\n", 1),
                           ("boxes 3\nblock 1,0\n", 2), ("boxes 3\nblock 1 0\nblock", 3), ("boxes 1e1\n", 1)):
            self.assertEqual(table_right(text), ("BadText", line), text)
            self.assert_reads(read_table, text, ("BadText", line))
        for text, line in (("", 1), ("\n", 1), ("sheet 3", 1), ("sheet\n", 1), ("sheet \n", 1), ("sheet 3\nkind\n", 2),
                           ("sheet 3\nkind 1 0", 2), ("sheet 3\n\n", 2), ("sheet 3\nsheet 3\nkind 1 0\n", 2),
                           ("kind 1 0\n", 1), ("sheet 2  3\n", 1), ("sheet 2 3 \n", 1), ("sheet 2 03\n", 1), ("boxes 3\n", 1),
                           ("sheet 3\nkind 1 0\nkind 1 0 \nx", 3), ("sheet 3\nkind 1 0\nx", 3), ("sheet 3\nblock 1 0\n", 2)):
            self.assertEqual(layout_right(text), ("BadText", line), text)
            self.assert_reads(read_layout, text, ("BadText", line))

    def test_tables_that_are_none(self):
        for text, part in (("boxes 0\nblock 1 0\n", "boxes"), ("boxes 121\nblock 1 0\n", "boxes"), ("boxes 3\n", "blocks"),
                           ("boxes 999999999\n", "boxes"), ("boxes 0\nblock 0 0\n", "boxes"), ("boxes 0\n", "boxes"),
                           ("boxes 3\n" + "block 1 0\n" * 361, "blocks"), ("boxes 3\n" + "block 0 0\n" * 361, "blocks"),
                           ("boxes 3\nblock 1\n", 0), ("boxes 3\nblock 0 0\n", 0), ("boxes 3\nblock 1000001 0\n", 0),
                           ("boxes 3\nblock 1 3\n", 0), ("boxes 3\nblock 1 0 0\n", 0), ("boxes 3\nblock 1 1 0\n", 0),
                           ("boxes 3\nblock 1 0\nblock 999999999 0\n", 1), ("boxes 3\nblock 1 0\nblock 1 2 1\nblock 1\n", 1),
                           ("boxes 3\n" + "block 1 0\n" * 359 + "block 1 0 3\n", 359)):
            self.assert_reads(read_table, text, ("BadTable", part))
        self.assertEqual(len(read_table("boxes 3\n" + "block 1 0\n" * 360).blocks), 360)

    def test_layouts_that_are_none(self):
        for text, error in (("sheet 0\nkind 1 0\n", ("BadSheet", "moduli")), ("sheet 121\nkind 1 0\n", ("BadSheet", "moduli")),
                            ("sheet 1 1 1 1\nkind 1 0\n", ("BadSheet", "moduli")), ("sheet 2 0\n", ("BadSheet", "moduli")),
                            ("sheet 11 11\nkind 1 0\n", ("BadSheet", "places")), ("sheet 2 61\n", ("BadSheet", "places")),
                            ("sheet 120 120 120\n", ("BadSheet", "places")), ("sheet 3\n", ("BadLayout", "kinds")),
                            ("sheet 3\n" + "kind 1 0\n" * 4, ("BadLayout", "kinds")),
                            ("sheet 3\n" + "kind 0 0\n" * 4, ("BadLayout", "kinds")), ("sheet 3\nkind 1\n", ("BadLayout", 0)),
                            ("sheet 3\nkind 0 0\n", ("BadLayout", 0)), ("sheet 3\nkind 1000001 0\n", ("BadLayout", 0)),
                            ("sheet 3\nkind 1 3\n", ("BadLayout", 0)), ("sheet 3\nkind 1 0 0\n", ("BadLayout", 0)),
                            ("sheet 9\nkind 1 0 1 2 3 4 5 6 7 8\n", ("BadLayout", 0)),
                            ("sheet 9\nkind 1 0\nkind 1 0 1 2 3 4 5 6 7\nkind 1 2 1\n", ("BadLayout", 2)),
                            ("sheet 999999999\n", ("BadSheet", "moduli"))):
            self.assert_reads(read_layout, text, error)
        self.assertEqual(len(read_layout("sheet 9\n" + "kind 1 0 1 2 3 4 5 6 7\n" * 3).kinds), 3)

    def test_what_is_no_string(self):
        for thing in [thing for thing in odd_things() if not isinstance(thing, str)]:
            for read in (read_table, read_layout):
                with self.assertRaises(BadText) as caught:
                    read(thing)
                self.assertEqual((type(caught.exception), caught.exception.line), (BadText, 0))
        for thing in (["boxes 3\n"], ("boxes 3\nblock 1 0\n",), b"boxes 3\nblock 1 0\n", 3, None, True):
            for read in (read_table, read_layout):
                with self.assertRaises(BadText) as caught:
                    read(thing)
                self.assertEqual(caught.exception.line, 0)

    def test_long_strings(self):
        for text, line in (("a" * 20000, 1), ("\n" * 20000, 1), ("boxes 3\n" + "\n" * 20000, 2), ("boxes " + "1" * 20000, 1),
                           ("boxes 3\n" + "block 1 0\n" * 20000 + "x", 20002), ("1 " * 20000 + "\n", 1)):
            self.assert_reads(read_table, text, ("BadText", line))
        self.assert_reads(read_table, "boxes 3\n" + "block 1 0\n" * 20000, ("BadTable", "blocks"))
        self.assert_reads(read_layout, "sheet 3\n" + "kind 1 0\n" * 20000, ("BadLayout", "kinds"))
        self.assert_reads(read_layout, "sheet" + " 3" * 20000 + "\n", ("BadSheet", "moduli"))


class TestNothingChanges(unittest.TestCase):
    def test_arguments_stay_as_they_are(self):
        things = plain_things()
        kept = copies_of(things)
        for thing in things:
            for read in (read_table, read_layout):
                self.assertRaises((BadText, BadTable, BadSheet, BadLayout), read, thing)
        self.assertEqual(things, kept)

    def test_equal_texts_are_read_as_equal_things(self):
        text = "boxes 3\nblock 3 0 1\n"
        self.assertEqual(read_table(text), read_table(text))
        self.assertIsNot(read_table(text), read_table(text))

    def test_names_are_defined_here(self):
        for name in ("read_table", "read_layout"):
            self.assertEqual(getattr(reading, name).__module__, "roundcopies.reading")


if __name__ == "__main__":
    unittest.main()
