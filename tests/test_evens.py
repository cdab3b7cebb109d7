"""Where the load stays exactly even, against all losses and all steps gone through."""

import itertools
import random
import unittest
from fractions import Fraction

from brute import adder, calm_by_losses, laid, random_kinds
from odd import copies_of, odd_things, plain_things
from roundcopies import evens
from roundcopies.errors import NoNumber, TooMany
from roundcopies.evens import even_steps, even_to, is_even_at
from roundcopies.layouts import Layout, copies
from roundcopies.sheets import Sheet, closed_lots

RING = Sheet((8,))
SMALL = ((1,), (2,), (3,), (4,), (5,), (6,), (7,), (8,), (1, 3), (2, 2), (2, 3), (3, 2), (2, 4), (4, 2), (2, 2, 2),
         (1, 2, 3))


def is_even_here(moduli, kinds, f):
    """Whether the calm, by all losses of f boxes, is all weights divided by the boxes that are left."""
    places = len(adder(moduli))
    every = places * sum([weight for _, weight in kinds])
    return calm_by_losses(places, laid(moduli, kinds), f) == Fraction(every, places - f)


def is_even_by_losses(boxes, blocks, f):
    """The same for blocks of weight 1, one for each box, on sheets of up to 16 places: a quick look.

    Behind each loss of f boxes asks are dealt to as many boxes as are left: cut
    into boxes - f parts each, boxes parts for each box.
    """
    inside = {}
    for lot in blocks:
        inside[lot] = inside.get(lot, 0) + 1
    # Blocks lie within a union of lots: no other sets of boxes need be gone through.
    unions = {0}
    for lot in inside:
        unions |= {lot | other for other in unions}
    for held in unions - {0}:
        weight = sum([many for lot, many in inside.items() if lot & held == lot])
        # Of all losses those within the set leave it the fewest boxes.
        if weight * (boxes - f) > boxes * (held.bit_count() - f):
            return False
    return True


class TestIsEvenAt(unittest.TestCase):
    def assert_right(self, moduli, kinds):
        layout = Layout(Sheet(moduli), kinds)
        right = [is_even_here(moduli, kinds, f) for f in range(copies(layout))]
        self.assertIs(right[0], True)
        self.assertEqual(right, sorted(right, reverse=True))
        for f, even in enumerate(right):
            self.assertIs(is_even_at(layout, f), even, (moduli, kinds, f))
        self.assertEqual(even_to(layout), sum(right) - 1)
        self.assertIs(type(even_to(layout)), int)
        return right

    def test_one_kind(self):
        chance = random.Random(40)
        found = []
        for moduli in SMALL:
            places = len(adder(moduli))
            for _ in range(8):
                found += self.assert_right(moduli, random_kinds(chance, places, 1, 4))
        self.assertTrue(min(found.count(True), found.count(False)) > 20)

    def test_two_and_three_kinds(self):
        chance = random.Random(41)
        found = []
        for moduli in SMALL:
            places = len(adder(moduli))
            for many in (2, 3):
                for _ in range(3):
                    kinds = random_kinds(chance, places, many, chance.choice((1, 1, 4)), 2, 4)
                    found += self.assert_right(moduli, kinds)
                    # Closed lots as steps are even the least.
                    lots = [lot for lot in closed_lots(Sheet(moduli)) if 2 <= len(lot) <= 4]
                    if lots:
                        found += self.assert_right(moduli, (*kinds[1:], (chance.choice(lots), chance.choice((1, 9)))))
        self.assertTrue(min(found.count(True), found.count(False)) > 20)

    def test_kinds_that_are_even_together_alone(self):
        self.assert_right((8,), (((0, 4), 1), ((0, 1, 4, 5), 1)))
        self.assert_right((6,), (((0, 3), 1), ((0, 1), 5)))
        self.assert_right((6,), (((0, 3), 5), ((0, 1), 1)))

    def test_two_kinds_of_the_same_steps_are_as_one_of_both_weights(self):
        chance = random.Random(42)
        for moduli in SMALL:
            steps = random_kinds(chance, len(adder(moduli)), 1, 1)[0][0]
            one = Layout(Sheet(moduli), ((steps, 5),))
            two = Layout(Sheet(moduli), ((steps, 2), (steps, 3)))
            self.assertEqual(even_to(one), even_to(two))
            for f in range(len(steps)):
                self.assertIs(is_even_at(one, f), is_even_at(two, f))

    def test_neighbours_on_rings_are_even_as_far_as_can_be(self):
        for places in (1, 2, 3, 7, 8, 12, 30, 64, 97, 120):
            for many in range(1, min(8, places) + 1):
                layout = Layout(Sheet((places,)), ((tuple(range(many)), 3),))
                self.assertEqual(even_to(layout), many - 1)
                self.assertTrue(all([is_even_at(layout, f) for f in range(many)]))

    def test_pairs_across_a_ring(self):
        for places in (2, 4, 6, 8, 60, 120):
            layout = Layout(Sheet((places,)), (((0, places // 2), 1),))
            self.assertEqual(even_to(layout), 1 if places == 2 else 0)

    def test_all_places_as_steps(self):
        for moduli in SMALL:
            places = len(adder(moduli))
            layout = Layout(Sheet(moduli), ((tuple(range(places)), 7),))
            self.assertEqual(even_to(layout), places - 1)

    def test_closed_lots_as_steps(self):
        for moduli in ((6,), (8,), (2, 4), (2, 2, 2), (12,), (120,), (10, 12)):
            sheet = Sheet(moduli)
            for lot in closed_lots(sheet):
                if len(lot) <= 8:
                    layout = Layout(sheet, ((lot, 1),))
                    self.assertEqual(even_to(layout), len(lot) - 1 if len(lot) == sheet.places else 0)

    def test_the_example(self):
        self.assertEqual(even_to(Layout(RING, (((0, 1, 4, 5), 1),))), 2)

    def test_even_at_0_always(self):
        chance = random.Random(43)
        for moduli in ((120,), (10, 12), (2, 6, 10)):
            self.assertIs(is_even_at(Layout(Sheet(moduli), random_kinds(chance, 120, 3, 10 ** 6)), 0), True)

    def test_no_number(self):
        for kinds, most in (((((0, 1), 1),), 2), ((((0, 1, 2), 1), ((0,), 1)), 1)):
            layout = Layout(RING, kinds)
            for f in (*odd_things(), -1, most, most + 1, 8, 10 ** 59, True, False, "0", (0,), [0], None):
                with self.assertRaises(NoNumber) as caught:
                    is_even_at(layout, f)
                self.assertIs(type(caught.exception), NoNumber)


class TestEvenSteps(unittest.TestCase):
    def right(self, moduli, many):
        sums = adder(moduli)
        places = len(sums)
        found = []
        for steps in itertools.combinations(range(places), many):
            blocks = [sum([1 << sums[place][step] for step in steps]) for place in range(places)]
            if 0 in steps and is_even_by_losses(places, blocks, many - 1):
                found.append(steps)
        return found

    def test_the_quick_look_is_right(self):
        chance = random.Random(44)
        for moduli in ((4,), (6,), (7,), (2, 3), (2, 4), (2, 2, 2), (8,)):
            sums = adder(moduli)
            for _ in range(12):
                steps = tuple(sorted(chance.sample(range(len(sums)), chance.randint(1, 5 if len(sums) > 5 else 3))))
                blocks = [sum([1 << sums[place][step] for step in steps]) for place in range(len(sums))]
                for f in range(len(steps)):
                    self.assertIs(is_even_by_losses(len(sums), blocks, f), is_even_here(moduli, ((steps, 1),), f))

    def test_against_all_lots_of_steps(self):
        for moduli in SMALL + ((9,), (3, 3), (10,), (2, 5)):
            sheet = Sheet(moduli)
            for many in range(1, min(5, sheet.places) + 1):
                found = even_steps(sheet, many)
                self.assertIs(type(found), list)
                self.assertEqual(found, self.right(moduli, many), (moduli, many))
                self.assertTrue(all([type(lot) is tuple for lot in found]))

    def test_against_all_losses_on_the_smallest(self):
        for moduli in ((1,), (3,), (4,), (5,), (6,), (2, 2), (2, 3), (1, 4)):
            sheet = Sheet(moduli)
            for many in range(1, min(5, sheet.places) + 1):
                lots = [(0, *others) for others in itertools.combinations(range(1, sheet.places), many - 1)]
                right = [steps for steps in lots if is_even_here(moduli, ((steps, 1),), many - 1)]
                self.assertEqual(even_steps(sheet, many), right)

    def test_sheets_of_up_to_16_places(self):
        for moduli in ((16,), (15,), (4, 4), (2, 8), (2, 2, 4), (13,), (12,), (2, 6), (2, 7), (3, 5)):
            sheet = Sheet(moduli)
            lots = closed_lots(sheet)
            sums = adder(moduli)
            for many in range(1, 6):
                right = []
                for others in itertools.combinations(range(1, sheet.places), many - 1):
                    met = [len({min([sums[step][one] for one in lot]) for step in (0, *others)}) for lot in lots]
                    if all([Fraction(len(lot), r * len(lot) - many + 1) <= Fraction(sheet.places, sheet.places - many + 1)
                            for lot, r in zip(lots, met)]):
                        right.append((0, *others))
                self.assertEqual(even_steps(sheet, many), right)

    def test_layouts_with_these_steps_are_even(self):
        for moduli in ((12,), (3, 4), (2, 2, 3)):
            sheet = Sheet(moduli)
            for many in (1, 2, 3):
                found = even_steps(sheet, many)
                for others in itertools.combinations(range(1, sheet.places), many - 1):
                    layout = Layout(sheet, (((0, *others), 1),))
                    self.assertIs(is_even_at(layout, many - 1), (0, *others) in found)

    def test_neighbours_are_among_them_on_rings(self):
        for places in range(1, 17):
            for many in range(1, min(5, places) + 1):
                self.assertIn(tuple(range(many)), even_steps(Sheet((places,)), many))

    def test_the_example(self):
        self.assertEqual(even_steps(Sheet((4,)), 2), [(0, 1), (0, 3)])

    def test_one_step(self):
        for moduli in ((1,), (16,), (4, 4)):
            self.assertEqual(even_steps(Sheet(moduli), 1), [(0,)])

    def test_no_number(self):
        for moduli in ((1,), (2,), (3,), (4,), (5,), (6,), (16,), (2, 2), (1, 1, 3)):
            sheet = Sheet(moduli)
            most = min(5, sheet.places)
            even_steps(sheet, most)
            for many in (*odd_things(), 0, -1, most + 1, most + 2, 17, 10 ** 59, True, False, "1", (1,), [1], None):
                with self.assertRaises(NoNumber) as caught:
                    even_steps(sheet, many)
                self.assertIs(type(caught.exception), NoNumber)

    def test_too_many_ahead_of_no_number(self):
        for moduli in ((17,), (18,), (120,), (3, 6), (2, 3, 3), (1, 17)):
            for many in (1, 2, 5, 0, 6, None, True, "1"):
                with self.assertRaises(TooMany) as caught:
                    even_steps(Sheet(moduli), many)
                self.assertIs(type(caught.exception), TooMany)
                self.assertEqual(caught.exception.most, 16)


class TestNothingChanges(unittest.TestCase):
    def test_the_list_is_new_each_time(self):
        one = even_steps(Sheet((6,)), 2)
        right = list(one)
        one.clear()
        self.assertEqual(even_steps(Sheet((6,)), 2), right)

    def test_arguments_stay_as_they_are(self):
        kinds = (((0, 1, 4), 2), ((0, 2), 3))
        layout = Layout(Sheet((8,)), kinds)
        is_even_at(layout, 1)
        even_to(layout)
        self.assertEqual(vars(layout), {"sheet": Sheet((8,)), "kinds": kinds})
        things = plain_things()
        kept = copies_of(things)
        for thing in things:
            for call in ((is_even_at, layout, thing), (even_steps, RING, thing)):
                with self.assertRaises(NoNumber):
                    call[0](*call[1:])
        self.assertEqual(things, kept)


class TestInterface(unittest.TestCase):
    def test_names_are_defined_here(self):
        for name in ("is_even_at", "even_to", "even_steps"):
            self.assertEqual(getattr(evens, name).__module__, "roundcopies.evens")


if __name__ == "__main__":
    unittest.main()
