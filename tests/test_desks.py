"""Desks and tales: lines told, beside a book of the tests' own."""

import random
import unittest

from books import Book
from brute import random_blocks
from odd import copies_of, odd_things, plain_things
from roundcopies import desks, errors
from roundcopies.desks import Desk, tale
from roundcopies.errors import Hidden, IsDown, IsUp, NoBlock, NoBox, NoCopy, NoLine, NoLines, Spent, TooMany
from roundcopies.tables import Table

TOLD = Table(3, (((0, 1), 3), ((1, 2), 2)))
# A right line of each form, for a table of two blocks and three boxes.
LINES = ("put 0 a", "look 1", "lose 2", "back 1", "empty 0", "mend 1 2", "round", "stale", "hidden", "deal 0", "served",
         "least", "moved")


def numbers(text):
    """The numbers of an answer, () for "none"."""
    return () if text == "none" else tuple([int(word) for word in text.split(" ")])


def told_by(desk, blocks):
    """What a desk tells of its store, read from its lines."""
    stale = desk.tell("stale")
    pairs = [] if stale == "none" else [tuple([int(word) for word in pair.split(":")]) for pair in stale.split(" ")]
    rows = {block: numbers(desk.tell(f"deal {block}")) for block in range(len(blocks))}
    return {"stale": pairs, "hidden": numbers(desk.tell("hidden")), "served": numbers(desk.tell("served")),
            "deal": {block: row for block, row in rows.items() if row}, "least": int(desk.tell("least")),
            "moved": int(desk.tell("moved"))}


def line_of(name, args):
    """The line of a deed."""
    return " ".join(["round" if name == "new_round" else name, *[str(word) for word in args]])


def word_by(chance):
    """A word of 1 to 20 small letters."""
    return "".join([chance.choice("abcdefghijklmnopqrstuvwxyz") for _ in range(chance.choice((1, 2, 5, 19, 20)))])


def one_thing_otherwise(line):
    """Lines that are otherwise by one thing, none of them of a form."""
    words = line.split(" ")
    found = [" " + line, line + " ", "\t" + line, line + "\t", line + "\n", "\n" + line, line.upper(), line + " 1 2 3",
             line.capitalize(), words[0] + "s" + line[len(words[0]):], line[1:], words[0][:-1] + line[len(words[0]):],
             line + " -", f"{line} {words[0]}", f"{words[0]} {line}", line + ".", line + ":", line + " 10"]
    if len(words) > 1:
        found += [words[0], line.replace(" ", "  ", 1), line.replace(" ", "\t", 1), line.replace(" ", "", 1),
                  line.replace(" ", "\n"), " ".join(reversed(words)), " ".join(words[1:]), line.replace(" ", " 0", 1),
                  line.replace(" ", " +", 1), line.replace(" ", " -", 1),
                  f"{words[0]} 1.0 {' '.join(words[2:])}".strip(), f"{words[0]} a {' '.join(words[2:])}".strip(),
                  f"{words[0]} 1000000000 {' '.join(words[2:])}".strip(), f"{words[0]} 0x1 {' '.join(words[2:])}".strip(),
                  f"{words[0]} 1_0 {' '.join(words[2:])}".strip(), f"{words[0]} 00 {' '.join(words[2:])}".strip()]
    else:
        found += [line + " 0", line + " a", line + "  ", line + " none"]
    return found


class TestTell(unittest.TestCase):
    def do(self, desk, book, name, *args):
        """One deed by a line, and a look at all that the desk tells."""
        line = line_of(name, args)
        fault = ("NoLine", None) if -1 in args else book.fault(name, *args)
        if fault is None:
            value = book.do(name, *args)
            found = desk.tell(line)
            self.assertEqual(found, ("-" if value is None else value) if name == "look" else "ok")
            self.assertIs(type(found), str)
        else:
            with self.assertRaises(errors.CopyError) as caught:
                desk.tell(line)
            self.assertEqual(type(caught.exception).__name__, fault[0])
            self.assertEqual(getattr(caught.exception, "block", None), fault[1])
        book.judge(self, told_by(desk, book.blocks))
        return line, ("ok" if name != "look" else "-" if value is None else value) if fault is None else f"({fault[0]})"

    def drawn(self, chance, book):
        """A drawn deed, its numbers perhaps beyond the table."""
        name = chance.choice(("put", "look", "look", "lose", "back", "empty", "mend", "mend", "new_round"))
        block = chance.randint(0, len(book.blocks) - 1) if chance.random() < 0.95 else chance.choice(
            (-1, len(book.blocks), 120, 999999999))
        box = chance.randint(0, book.boxes - 1) if chance.random() < 0.95 else chance.choice((-1, book.boxes, 999999999))
        args = {"put": (block, word_by(chance)), "look": (block,), "mend": (block, box), "new_round": ()}
        return name, args.get(name, (box,))

    def test_drawn_lines_and_their_tales(self):
        chance = random.Random(110)
        seen = {}
        for _ in range(50):
            boxes = chance.randint(1, 4)
            blocks = random_blocks(chance, boxes, chance.randint(1, 4), 3, 4)
            desk, book = Desk(Table(boxes, blocks)), Book(boxes, blocks)
            book.judge(self, told_by(desk, blocks))
            lines, right = [], []
            for _ in range(50):
                name, args = self.drawn(chance, book)
                line, answer = self.do(desk, book, name, *args)
                lines.append(line)
                right.append(answer)
                seen[answer if answer[0] == "(" else name] = True
            self.assertEqual(tale(Table(boxes, blocks), lines), right)
            self.assertEqual(tale(Table(boxes, blocks), tuple(lines)), right)
        self.assertEqual(sorted(seen), sorted([
            "put", "look", "lose", "back", "empty", "mend", "new_round", "(NoLine)", "(NoBlock)", "(NoBox)", "(NoCopy)",
            "(IsDown)", "(IsUp)", "(Hidden)", "(Spent)"]))

    def test_by_hand(self):
        # All these deals are the only ones that there are.
        told = (("look 0", "-"), ("put 0 abc", "ok"), ("look 0", "abc"), ("look 0", "abc"), ("look 0", "abc"),
                ("look 0", "(Spent)"), ("served", "2 2 0"), ("deal 0", "2 2"), ("deal 1", "0 2"), ("least", "2"),
                ("moved", "0"), ("hidden", "none"), ("stale", "none"), ("lose 0", "ok"), ("deal 0", "0 4"),
                ("deal 1", "0 2"), ("moved", "2"), ("least", "4"), ("served", "0 0 0"), ("put 0 b", "ok"), ("back 0", "ok"),
                ("stale", "0:0"), ("moved", "2"), ("lose 1", "ok"), ("hidden", "0"), ("deal 0", "none"), ("deal 1", "0 2"),
                ("mend 0 0", "(Hidden)"), ("look 0", "(Hidden)"), ("put 0 c", "ok"), ("deal 0", "4 0"), ("moved", "0"),
                ("look 0", "c"), ("served", "1 0 0"), ("back 1", "ok"), ("stale", "0:1"), ("served", "0 0 0"),
                ("empty 1", "ok"), ("stale", "0:1 1:1"), ("round", "ok"), ("empty 2", "ok"), ("stale", "0:1 1:1 1:2"),
                ("hidden", "1"), ("mend 0 1", "ok"), ("deal 0", "2 2"), ("moved", "2"), ("lose 2", "ok"), ("lose 0", "ok"),
                ("lose 1", "ok"), ("stale", "none"), ("hidden", "0 1"), ("least", "0"), ("served", "0 0 0"),
                ("moved", "0"), ("deal 0", "none"))
        table = Table(3, (((0, 1), 4), ((1, 2), 2)))
        self.assertEqual(tale(table, [line for line, _ in told]), [answer for _, answer in told])
        desk = Desk(table)
        for line, answer in told:
            if answer[0] != "(":
                self.assertEqual(desk.tell(line), answer)

    def test_a_value_that_was_put_last(self):
        desk = Desk(Table(2, (((0, 1), 9),)))
        for word in ("a", "z", "put", "none", "ok", "abcdefghijklmnopqrst"):
            self.assertEqual(desk.tell(f"put 0 {word}"), "ok")
            self.assertEqual(desk.tell("look 0"), word)
        self.assertEqual(desk.tell("lose 0"), "ok")
        self.assertEqual(desk.tell("look 0"), "abcdefghijklmnopqrst")

    def test_numbers_of_many_figures(self):
        blocks = tuple([((box,), 1) for box in range(120)])
        desk = Desk(Table(120, blocks))
        for line, right in (("put 119 a", "ok"), ("look 119", "a"), ("lose 119", "ok"), ("deal 119", "none"),
                            ("hidden", "119"), ("back 119", "ok"), ("empty 100", "ok"), ("stale", "100:100"),
                            ("put 100 b", "ok"), ("mend 100 100", "ok"), ("deal 100", "1"),
                            ("served", " ".join(["0"] * 120)), ("least", "1"), ("moved", "0")):
            self.assertEqual(desk.tell(line), right, line)


class TestNoLine(unittest.TestCase):
    def assert_no_line(self, desk, line):
        with self.assertRaises(NoLine) as caught:
            desk.tell(line)
        self.assertIs(type(caught.exception), NoLine)

    def led(self):
        desk = Desk(TOLD)
        for line in ("put 0 a", "look 0", "lose 2", "look 1", "put 1 b"):
            desk.tell(line)
        return desk

    def test_right_lines(self):
        desk = Desk(TOLD)
        for line in LINES:
            if line not in ("back 1", "mend 1 2"):
                self.assertIs(type(desk.tell(line)), str)
        self.assertRaises(IsUp, desk.tell, "back 1")
        self.assertRaises(IsDown, desk.tell, "mend 1 2")

    def test_lines_otherwise_by_one_thing(self):
        desk = self.led()
        before = told_by(desk, TOLD.blocks)
        for line in LINES:
            for wrong in one_thing_otherwise(line):
                self.assert_no_line(desk, wrong)
        self.assertEqual(told_by(desk, TOLD.blocks), before)
        self.assertEqual(desk.tell("look 1"), "b")

    def test_words(self):
        desk = self.led()
        for word in ("a", "z", "az", "a" * 20, "abcdefghijklmnopqrst", "uvwxyz"):
            self.assertEqual(desk.tell(f"put 0 {word}"), "ok")
        before = told_by(desk, TOLD.blocks)
        for word in ("", "a" * 21, "a" * 22, "a" * 20000, "A", "aB", "Aa", "a1", "1", "0", "-", "a-b", "a b", "a_b", "a.b",
                     "a\t", "\ta", "a\n", "\na", "a\nb", " a", "a ", "{", "`", "@", "[", "~", "a:", "'a'", '"a"'):
            self.assert_no_line(desk, f"put 0 {word}")
        self.assertEqual(told_by(desk, TOLD.blocks), before)
        self.assertEqual(desk.tell("look 0"), "uvwxyz")

    def test_numbers(self):
        desk = self.led()
        before = told_by(desk, TOLD.blocks)
        for form in ("put {} a", "look {}", "lose {}", "back {}", "empty {}", "mend {} 1", "mend 1 {}", "deal {}"):
            for number in ("00", "01", "001", "0000000000", "1000000000", "0000000001", "9999999999", "1" * 10, "1" * 20000,
                           "-1", "-0", "+1", "+0", "1.0", "1.", "1e0", "0x1", "1_0", "a", "", " 1", "1 ", "\t1", "1\t",
                           "1\n", "1,0", "1:0", "/", ":", "One", "0 0 0"):
                self.assert_no_line(desk, form.format(number))
            for number in ("3", "10", "100", "999999999", "123456789", "100000000"):
                with self.assertRaises((NoBlock, NoBox)):
                    desk.tell(form.format(number))
        self.assertEqual(told_by(desk, TOLD.blocks), before)

    def test_all_signs(self):
        desk = self.led()
        for sign in [chr(code) for code in range(32, 127)] + ["\n", "\t"]:
            for line, right in ((f"put 0 a{sign}", "a" <= sign <= "z"), (f"put 0 {sign}a", "a" <= sign <= "z"),
                                (f"look 1{sign}", "0" <= sign <= "9"), (f"look {sign}1", "1" <= sign <= "9")):
                if not right:
                    self.assert_no_line(desk, line)
                elif line[0] == "p":
                    self.assertEqual(desk.tell(line), "ok")
                else:
                    self.assertRaises(NoBlock, desk.tell, line)

    def test_other_lines(self):
        desk = self.led()
        before = told_by(desk, TOLD.blocks)
        for line in (*odd_things(), "", " ", "  ", "\n", "\t", "0", "a", "none", "ok", "-", "put", "put 0", "put a", "put a 0",
                     "put 0 a b", "put 0 1", "put 0  a", "look", "look a", "look 0 a", "lose", "lose 0 1", "back", "empty",
                     "mend", "mend 0", "mend 0 a", "mend 0 1 2", "round 0", "rounds", "new_round", "is_up 0", "copy",
                     "last_moved", "stale 0", "hidden 0", "deal", "deal 0 1", "deal a", "served 0", "least 0", "moved 0",
                     ["put 0 a"], ("round",), {"round": 0}, b"round", None, 0, "round\nround", "round round", "a" * 20000):
            self.assert_no_line(desk, line)
        self.assertEqual(told_by(desk, TOLD.blocks), before)

    def test_ahead_of_the_errors_of_the_store(self):
        desk = self.led()
        for line in ("look 00", "look 9 9", "lose 02", "lose  2", "back 0 0", "empty 02", "mend 9 09", "put 9 A", "put 9",
                     "deal 9 9", "deal 09", "mend 0", "look 9\n", "put 999999999 a1"):
            self.assert_no_line(desk, line)

    def test_the_errors_of_the_store(self):
        desk = self.led()
        before = told_by(desk, TOLD.blocks)
        for line, error, block in (("put 2 a", NoBlock, None), ("look 2", NoBlock, None), ("mend 2 9", NoBlock, None),
                                   ("deal 2", NoBlock, None), ("deal 999999999", NoBlock, None), ("lose 3", NoBox, None),
                                   ("back 3", NoBox, None), ("empty 999999999", NoBox, None), ("mend 0 3", NoBox, None),
                                   ("mend 0 2", NoCopy, None), ("mend 1 0", NoCopy, None), ("mend 1 2", IsDown, None),
                                   ("lose 2", IsDown, None), ("empty 2", IsDown, None), ("back 0", IsUp, None)):
            with self.assertRaises(error) as caught:
                desk.tell(line)
            self.assertIs(type(caught.exception), error, line)
        self.assertEqual(told_by(desk, TOLD.blocks), before)
        desk.tell("look 1")
        for line, error, block in (("look 1", Spent, 1), ("empty 1", None, None), ("look 1", Hidden, 1),
                                   ("mend 1 1", Hidden, 1), ("lose 1", None, None), ("put 1 a", Hidden, 1)):
            if error is None:
                self.assertEqual(desk.tell(line), "ok")
            else:
                with self.assertRaises(error) as caught:
                    desk.tell(line)
                self.assertEqual((type(caught.exception), caught.exception.block), (error, block))


class TestTale(unittest.TestCase):
    def test_the_example(self):
        found = tale(TOLD, ["put 0 a", "lose 0", "look 0", "least", "back 0", "stale"])
        self.assertEqual(found, ["ok", "ok", "a", "3", "ok", "none"])
        self.assertIs(type(found), list)

    def test_no_lines_at_all(self):
        self.assertEqual(tale(TOLD, []), [])
        self.assertEqual(tale(TOLD, ()), [])

    def test_errors_in_parentheses(self):
        lines = ("look 2", "lose 3", "mend 0 2", "lose 0", "lose 0", "back 1", "lose 1", "look 0", "put 0 a", "", "look 1",
                 "look 1", "look 1", "empty 0", "round ", "round", "look 1")
        right = ["(NoBlock)", "(NoBox)", "(NoCopy)", "ok", "(IsDown)", "(IsUp)", "ok", "(Hidden)", "(Hidden)", "(NoLine)",
                 "-", "-", "(Spent)", "(IsDown)", "(NoLine)", "ok", "-"]
        self.assertEqual(tale(TOLD, lines), right)
        self.assertEqual(tale(TOLD, list(lines)), right)

    def test_each_tale_has_a_new_desk(self):
        self.assertEqual(tale(TOLD, ["put 0 a", "lose 0", "look 0"]), ["ok", "ok", "a"])
        self.assertEqual(tale(TOLD, ["look 0", "lose 0"]), ["-", "ok"])
        one = tale(TOLD, ["look 0"])
        one.append("x")
        self.assertEqual(tale(TOLD, ["look 0"]), ["-"])

    def test_a_long_tale(self):
        lines = ["look 0"] * 5 + ["round"] * 19990
        self.assertEqual(tale(TOLD, lines), ["-"] * 3 + ["(Spent)"] * 2 + ["ok"] * 19990)

    def wrong_lines(self):
        things = [thing for thing in odd_things() if not (isinstance(thing, (list, tuple))
                                                         and all([isinstance(line, str) for line in thing]))]
        return [*things, "", "round", "a" * 20000, [None], ["round", None], ("round", 0), ["round", b"round"], [["round"]],
                (("round",),), {0: "round"}, {"round": "round"}, iter(["round"]), range(0), 0, None, [True], ["round", []]]

    def test_no_lines(self):
        for lines in self.wrong_lines():
            with self.assertRaises(NoLines) as caught:
                tale(TOLD, lines)
            self.assertIs(type(caught.exception), NoLines)

    def test_too_many(self):
        for blocks in ((((0, 1), 401),), (((0,), 200), ((1,), 201)), (((0,), 10 ** 6),)):
            table = Table(3, blocks)
            for lines in ([], ["round"], ("",), None, *self.wrong_lines()):
                with self.assertRaises(TooMany) as caught:
                    tale(table, lines)
                self.assertEqual((type(caught.exception), caught.exception.most), (TooMany, 400))
            with self.assertRaises(TooMany) as caught:
                Desk(table)
            self.assertEqual((type(caught.exception), caught.exception.most), (TooMany, 400))
        self.assertEqual(Desk(Table(1, (((0,), 400),))).tell("least"), "400")
        self.assertEqual(tale(Table(1, (((0,), 400),)), ["least"]), ["400"])

    def test_arguments_stay_as_they_are(self):
        table = Table(3, TOLD.blocks)
        lines = ["put 0 a", "", "look 0", "look 5"]
        self.assertEqual(tale(table, lines), tale(table, lines))
        self.assertEqual(lines, ["put 0 a", "", "look 0", "look 5"])
        self.assertEqual(vars(table), vars(TOLD))
        things = plain_things()
        kept = copies_of(things)
        desk = Desk(TOLD)
        for thing in things:
            self.assertRaises(NoLine, desk.tell, thing)
            try:
                tale(TOLD, thing)
            except NoLines:
                pass
        self.assertEqual(things, kept)

    def test_the_interface(self):
        self.assertEqual((Desk.__module__, tale.__module__), ("roundcopies.desks",) * 2)
        self.assertIn("tell", vars(desks.Desk))
        for thing in (*odd_things(), Desk(TOLD)):
            self.assertFalse(Desk(TOLD) == thing)


if __name__ == "__main__":
    unittest.main()
