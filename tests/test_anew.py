"""How a box is made anew, against the blocks of a lost box gone through."""

import itertools
import random
import unittest
from fractions import Fraction

from brute import adder, laid, least_by_lots, random_kinds
from odd import copies_of, odd_things, plain_things
from roundcopies import anew
from roundcopies.anew import gives, is_alike, least_reading
from roundcopies.errors import NoOther, NoPlace
from roundcopies.layouts import Layout
from roundcopies.sheets import Sheet

RING = Sheet((8,))
PAIRS = Layout(RING, (((0, 4), 1),))
SMALL = ((2,), (3,), (4,), (5,), (7,), (8,), (9,), (2, 2), (2, 3), (3, 3), (2, 4), (2, 2, 2), (1, 2, 3), (12,), (3, 4))


def others_of(moduli, kinds, lost):
    """For each block that had a copy on the lost box its other boxes."""
    return [tuple([box for box in lot if box != lost]) for lot, _ in laid(moduli, kinds) if lost in lot]


def asked(moduli, kinds, lost):
    """What each box is asked when one is lost, in like parts."""
    found = {box: Fraction(0) for box in range(len(adder(moduli)))}
    for others in others_of(moduli, kinds, lost):
        for box in others:
            found[box] += Fraction(1, len(others))
    return found


def told(fraction):
    """A fraction as the program tells it."""
    return (fraction.numerator, fraction.denominator)


def differs_alike(places, steps):
    """Whether on a ring each place but 0 is the difference of two steps equally often."""
    found = [(one - other) % places for one, other in itertools.permutations(steps, 2)]
    return len({found.count(step) for step in range(1, places)}) == 1


class TestGives(unittest.TestCase):
    def assert_right(self, moduli, kinds):
        layout = Layout(Sheet(moduli), kinds)
        sums = adder(moduli)
        for lost in range(len(sums)):
            right = asked(moduli, kinds, lost)
            for step in range(1, len(sums)):
                found = gives(layout, step)
                self.assertEqual(found, told(right[sums[lost][step]]), (moduli, kinds, lost, step))
                self.assertEqual([type(found), type(found[0]), type(found[1])], [tuple, int, int])
            alike = len({right[box] for box in right if box != lost}) == 1
            self.assertIs(is_alike(layout), alike)
        return is_alike(layout)

    def test_all_kinds_of_layouts(self):
        chance = random.Random(60)
        found = []
        for moduli in SMALL:
            for many in (1, 2, 3):
                for _ in range(3):
                    kinds = random_kinds(chance, len(adder(moduli)), many, 9, 2)
                    found.append(self.assert_right(moduli, kinds))
        self.assertTrue(min(found.count(True), found.count(False)) > 10)

    def test_weights_mean_nothing(self):
        for weights in ((1, 1), (10 ** 6, 1), (3, 7)):
            layout = Layout(RING, (((0, 1, 3), weights[0]), ((0, 4), weights[1])))
            self.assertEqual([gives(layout, step) for step in range(1, 8)],
                             [(1, 2), (1, 2), (1, 2), (2, 1), (1, 2), (1, 2), (1, 2)])

    def test_all_places_as_steps(self):
        for moduli in ((2,), (5,), (8,), (2, 3), (2, 2, 2)):
            places = len(adder(moduli))
            layout = Layout(Sheet(moduli), ((tuple(range(places)), 3),))
            for step in range(1, places):
                self.assertEqual(gives(layout, step), told(Fraction(places, places - 1)))
            self.assertIs(is_alike(layout), True)

    def test_the_examples(self):
        layout = Layout(Sheet((7,)), (((0, 1, 3), 1),))
        self.assertEqual(gives(layout, 2), (1, 2))
        self.assertIs(is_alike(layout), True)

    def test_each_difference_equally_often(self):
        for places, steps in ((7, (0, 1, 3)), (13, (0, 1, 3, 9)), (21, (0, 1, 4, 14, 16)), (7, (0, 1, 2, 4)),
                              (31, (0, 1, 3, 8, 12, 18)), (57, (0, 1, 3, 13, 32, 36, 43, 52))):
            self.assertTrue(differs_alike(places, steps))
            self.assertIs(is_alike(Layout(Sheet((places,)), ((steps, 5),))), True)
            for at, step in itertools.product(range(1, len(steps)), range(1, places)):
                others = tuple(sorted({*steps[:at], step, *steps[at + 1:]}))
                found = is_alike(Layout(Sheet((places,)), ((others, 5),))) if len(others) > 1 else None
                self.assertIs(found, differs_alike(places, others) if len(others) > 1 else None)

    def test_the_fact_of_helpers(self):
        for moduli in ((3,), (4,), (5,), (7,), (2, 2), (2, 3), (2, 4), (3, 3)):
            sums = adder(moduli)
            for size in (2, 3, 4):
                for steps in itertools.combinations(range(len(sums)), size):
                    often = {place: 0 for place in range(1, len(sums))}
                    for one, other in itertools.permutations(steps, 2):
                        often[[place for place in often if sums[place][other] == one][0]] += 1
                    layout = Layout(Sheet(moduli), ((steps, 1),))
                    self.assertIs(is_alike(layout), len(set(often.values())) == 1)

    def test_kinds_that_are_alike_together_alone(self):
        layout = Layout(Sheet((5,)), (((0, 1), 1), ((0, 2), 1)))
        self.assertIs(is_alike(layout), True)
        self.assertIs(is_alike(Layout(Sheet((5,)), (((0, 1), 1),))), False)
        self.assertEqual(gives(layout, 1), (1, 1))

    def test_great_sheets(self):
        chance = random.Random(61)
        for moduli in ((120,), (10, 12), (2, 6, 10)):
            kinds = random_kinds(chance, 120, 3, 10 ** 6, 2)
            layout = Layout(Sheet(moduli), kinds)
            right = asked(moduli, kinds, 77)
            for step in range(1, 120, 7):
                self.assertEqual(gives(layout, step), told(right[adder(moduli)[77][step]]))
            self.assertIs(is_alike(layout), False)


class TestLeastReading(unittest.TestCase):
    def test_against_all_lots_of_the_blocks(self):
        chance = random.Random(62)
        for moduli in SMALL:
            for many in (1, 2, 3):
                kinds = random_kinds(chance, len(adder(moduli)), many, 10 ** 6, 2, 4)
                layout = Layout(Sheet(moduli), kinds)
                blocks = [(others, 1) for others in others_of(moduli, kinds, 0)]
                right = told(least_by_lots(blocks, ()))
                for box in range(len(adder(moduli))):
                    found = least_reading(layout, box)
                    self.assertEqual(found, right)
                    self.assertEqual([type(found), type(found[0]), type(found[1])], [tuple, int, int])

    def test_the_example(self):
        self.assertEqual(least_reading(PAIRS, 0), (2, 1))

    def test_by_hand(self):
        self.assertEqual(least_reading(Layout(Sheet((2,)), (((0, 1), 9),)), 1), (2, 1))
        self.assertEqual(least_reading(Layout(Sheet((7,)), (((0, 1, 3), 1),)), 6), (1, 2))
        self.assertEqual(least_reading(Layout(Sheet((8,)), (((0, 1), 1),)), 3), (1, 1))
        self.assertEqual(least_reading(Layout(Sheet((120,)), ((tuple(range(8)), 1),)), 119), (4, 7))


class TestErrors(unittest.TestCase):
    def assert_raises(self, error, call, *arguments):
        with self.assertRaises(error) as caught:
            call(*arguments)
        self.assertIs(type(caught.exception), error)

    def test_no_other_ahead_of_all_else(self):
        for kinds in ((((0,), 1),), (((5,), 1), ((0, 1), 1)), (((0, 1), 1), ((0, 2), 1), ((3,), 1))):
            layout = Layout(RING, kinds)
            self.assert_raises(NoOther, is_alike, layout)
            for thing in (*odd_things(), 0, 1, 7, 8, -1, None):
                self.assert_raises(NoOther, gives, layout, thing)
                self.assert_raises(NoOther, least_reading, layout, thing)
        layout = Layout(Sheet((1,)), (((0,), 1),))
        self.assert_raises(NoOther, is_alike, layout)
        self.assert_raises(NoOther, gives, layout, 0)
        self.assert_raises(NoOther, least_reading, layout, 0)

    def test_no_place(self):
        for moduli in ((2,), (7,), (8,), (2, 4)):
            places = len(adder(moduli))
            layout = Layout(Sheet(moduli), (((0, 1), 1),))
            for thing in (*odd_things(), places, places + 1, 120, -1, 10 ** 59, True, False, "1", (1,), [1], None, ()):
                self.assert_raises(NoPlace, gives, layout, thing)
                self.assert_raises(NoPlace, least_reading, layout, thing)
            self.assert_raises(NoPlace, gives, layout, 0)
            gives(layout, places - 1)
            least_reading(layout, 0)
            least_reading(layout, places - 1)


class TestNothingChanges(unittest.TestCase):
    def test_arguments_stay_as_they_are(self):
        kinds = (((0, 1, 4), 2), ((0, 2), 3))
        one, other = Layout(Sheet((8,)), kinds), Layout(Sheet((8,)), kinds)
        self.assertEqual((gives(one, 3), is_alike(one), least_reading(one, 5)),
                         (gives(other, 3), is_alike(other), least_reading(other, 5)))
        self.assertEqual(vars(one), {"sheet": Sheet((8,)), "kinds": kinds})
        things = plain_things()
        kept = copies_of(things)
        for thing in things:
            for call in (gives, least_reading):
                with self.assertRaises(NoPlace):
                    call(one, thing)
        self.assertEqual(things, kept)


class TestInterface(unittest.TestCase):
    def test_names_are_defined_here(self):
        for name in ("gives", "is_alike", "least_reading"):
            self.assertEqual(getattr(anew, name).__module__, "roundcopies.anew")


if __name__ == "__main__":
    unittest.main()
