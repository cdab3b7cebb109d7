"""Closed lots of sheets, and their shifts."""

import itertools
import unittest

from brute import adder, all_lots
from odd import copies_of, odd_things, plain_things
from roundcopies.errors import NoLot, NoPlace, NotClosed
from roundcopies.sheets import Sheet, closed_lots, is_closed, shifted, shifts_met, spanned

TINY = ((1,), (2,), (3,), (4,), (6,), (8,), (9,), (1, 1), (1, 4), (4, 1), (2, 2), (2, 3), (3, 3), (2, 4), (4, 2),
        (1, 1, 1), (2, 2, 2), (2, 1, 2), (1, 2, 4))
SMALL = TINY + ((12,), (16,), (2, 6), (6, 2), (3, 4), (4, 4), (2, 2, 3), (2, 3, 2), (3, 3, 2), (2, 2, 4))
LARGE = ((120,), (97,), (64,), (10, 12), (1, 120), (8, 8), (4, 5, 6), (2, 6, 10), (3, 6, 6), (4, 4, 4), (1, 11, 10))


def holds_sums(sums, lot):
    """Whether a lot holds 0 and the sum of any two of it, by the words of the document."""
    held = set(lot)
    return 0 in held and all([sums[one][other] in held for one in lot for other in lot])


def grown_from(sums, lot):
    """The least closed lot that holds a lot: sums are put in until no further one comes."""
    held = {0, *lot}
    while True:
        more = {sums[one][other] for one in held for other in held} | held
        if more == held:
            return tuple(sorted(held))
        held = more


def by_joining(sums):
    """All closed lots: those of single places, joined until no further one comes."""
    single = {grown_from(sums, (place,)) for place in range(len(sums))}
    found = set(single)
    fresh = set(single)
    while fresh:
        pairs = {tuple(sorted({*one, *other})) for one in fresh for other in single}
        joined = {grown_from(sums, pair) for pair in pairs if pair not in found}
        fresh = joined - found
        found |= fresh
    return sorted(found)


def shift(sums, lot, place):
    """The sums of a place and each of a lot."""
    return tuple(sorted([sums[place][one] for one in lot]))


class TestIsClosed(unittest.TestCase):
    def test_all_lots_of_tiny_sheets(self):
        for moduli in TINY:
            sheet = Sheet(moduli)
            sums = adder(moduli)
            for lot in all_lots(sheet.places):
                self.assertIs(is_closed(sheet, lot), holds_sums(sums, lot))

    def test_the_sum_of_a_place_and_itself_counts(self):
        self.assertIs(is_closed(Sheet((4,)), (0, 1)), False)
        self.assertIs(is_closed(Sheet((3,)), (0, 1)), False)
        self.assertIs(is_closed(Sheet((2, 2)), (0, 3)), True)

    def test_large_sheets(self):
        self.assertIs(is_closed(Sheet((120,)), tuple(range(120))), True)
        self.assertIs(is_closed(Sheet((120,)), tuple(range(119))), False)
        self.assertIs(is_closed(Sheet((120,)), tuple(range(0, 120, 8))), True)
        self.assertIs(is_closed(Sheet((120,)), tuple(range(0, 112, 8))), False)
        self.assertIs(is_closed(Sheet((10, 12)), tuple(range(12))), True)
        self.assertIs(is_closed(Sheet((10, 12)), tuple(range(10))), False)
        self.assertIs(is_closed(Sheet((10, 12)), tuple(range(0, 120, 12))), True)

    def test_no_lots_of_places_are_not_closed(self):
        sheet = Sheet((4,))
        for thing in [*odd_things(), (), [0], [0, 2], (2, 0), (0, 0), (0, 0, 2), (0, 2, 2), (0, 4), (0, 2, 4), (0, 120),
                      (-2, 0), (-4, 0), (0, True), (False,), (False, 2), (False, 1, 2, 3), 0, 2, "02"]:
            self.assertIs(is_closed(sheet, thing), False, repr(thing)[:60])

    def test_odd_things_in_a_lot(self):
        for thing in odd_things():
            self.assertIs(is_closed(Sheet((4,)), (thing,)), False)
            self.assertIs(is_closed(Sheet((4,)), (0, thing)), False)
            self.assertIs(is_closed(Sheet((4,)), (0, 2, thing)), False)


class TestClosedLots(unittest.TestCase):
    def test_all_of_tiny_sheets(self):
        for moduli in TINY:
            sums = adder(moduli)
            right = sorted([lot for lot in all_lots(len(sums)) if holds_sums(sums, lot)])
            self.assertEqual(closed_lots(Sheet(moduli)), right)

    def test_all_by_joining(self):
        for moduli in SMALL:
            self.assertEqual(closed_lots(Sheet(moduli)), by_joining(adder(moduli)))

    def test_rings_have_one_for_each_divisor(self):
        for places in range(1, 121):
            divisors = [step for step in range(1, places + 1) if places % step == 0]
            right = sorted([tuple(range(0, places, step)) for step in divisors])
            self.assertEqual(closed_lots(Sheet((places,))), right)

    def test_how_many_large_sheets_have(self):
        for moduli, many in (((10, 12), 32), ((8, 8), 37), ((2, 6, 10), 64), ((3, 6, 6), 140), ((4, 4, 4), 129),
                             ((4, 5, 6), 32), ((1, 120), 16), ((97,), 2)):
            self.assertEqual(len(closed_lots(Sheet(moduli))), many, moduli)

    def test_large_sheets_have_closed_lots_ascending(self):
        for moduli in LARGE:
            sums = adder(moduli)
            found = closed_lots(Sheet(moduli))
            self.assertTrue(all([one < other for one, other in zip(found, found[1:])]))
            for lot in found:
                self.assertIs(type(lot), tuple)
                self.assertTrue(all([one < other for one, other in zip(lot, lot[1:])]))
                self.assertTrue(holds_sums(sums, lot))

    def test_the_example(self):
        self.assertEqual(closed_lots(Sheet((4,))), [(0,), (0, 1, 2, 3), (0, 2)])

    def test_the_list_is_new_each_time(self):
        sheet = Sheet((6,))
        one = closed_lots(sheet)
        right = list(one)
        self.assertIs(type(one), list)
        one.clear()
        other = closed_lots(sheet)
        self.assertEqual(other, right)
        self.assertIsNot(one, other)
        other.append(None)
        self.assertEqual(closed_lots(Sheet((6,))), right)


class TestSpanned(unittest.TestCase):
    def test_all_lots_of_tiny_sheets(self):
        for moduli in TINY:
            sheet = Sheet(moduli)
            sums = adder(moduli)
            for lot in all_lots(sheet.places):
                found = spanned(sheet, lot)
                self.assertEqual(found, grown_from(sums, lot))
                self.assertIs(type(found), tuple)

    def test_single_places_and_pairs_of_larger_sheets(self):
        for moduli in SMALL:
            sheet = Sheet(moduli)
            sums = adder(moduli)
            for lot in itertools.chain([()], *[itertools.combinations(range(sheet.places), many) for many in (1, 2)]):
                self.assertEqual(spanned(sheet, lot), grown_from(sums, lot))

    def test_large_sheets(self):
        self.assertEqual(spanned(Sheet((120,)), ()), (0,))
        self.assertEqual(spanned(Sheet((120,)), (48, 80)), tuple(range(0, 120, 8)))
        self.assertEqual(spanned(Sheet((120,)), (119,)), tuple(range(120)))
        self.assertEqual(spanned(Sheet((120,)), tuple(range(120))), tuple(range(120)))
        for moduli in LARGE:
            sums = adder(moduli)
            for lot in ((1,), (2,), (len(sums) - 1,), (3, 12), (1, len(sums) - 1)):
                self.assertEqual(spanned(Sheet(moduli), lot), grown_from(sums, lot))

    def test_no_lots(self):
        for moduli in ((1,), (4,), (2, 2)):
            sheet = Sheet(moduli)
            for thing in [*odd_things(), [], [0], (sheet.places,), (0, sheet.places), (0, 120), (-1, 0), (0, 0), 0, 1,
                          (2, 1), (1, 1), range(1), True, "0"]:
                with self.assertRaises(NoLot) as caught:
                    spanned(sheet, thing)
                self.assertIs(type(caught.exception), NoLot)

    def test_odd_things_in_a_lot(self):
        for thing in odd_things():
            for lot in ((thing,), (0, thing), (0, 1, thing)):
                with self.assertRaises(NoLot):
                    spanned(Sheet((4,)), lot)


class TestShifts(unittest.TestCase):
    def test_shifts_of_all_closed_lots(self):
        for moduli in SMALL + ((10, 12),):
            sheet = Sheet(moduli)
            sums = adder(moduli)
            for lot in closed_lots(sheet):
                for place in range(sheet.places):
                    found = shifted(sheet, lot, place)
                    self.assertEqual(found, shift(sums, lot, place))
                    self.assertIs(type(found), tuple)

    def test_shifts_met_by_all_lots_of_tiny_sheets(self):
        for moduli in TINY:
            sheet = Sheet(moduli)
            sums = adder(moduli)
            for closed in closed_lots(sheet):
                for lot in all_lots(sheet.places):
                    right = len({shift(sums, closed, place) for place in lot})
                    self.assertEqual(shifts_met(sheet, closed, lot), right)

    def test_shifts_met_on_large_sheets(self):
        for moduli in LARGE:
            sheet = Sheet(moduli)
            sums = adder(moduli)
            for closed in closed_lots(sheet)[::7]:
                for lot in ((), (0,), (1, 2), tuple(range(0, sheet.places, 7)), tuple(range(sheet.places))):
                    right = len({shift(sums, closed, place) for place in lot})
                    found = shifts_met(sheet, closed, lot)
                    self.assertEqual(found, right)
                    self.assertIs(type(found), int)

    def test_the_example(self):
        self.assertEqual(shifts_met(Sheet((8,)), (0, 4), (0, 1, 4, 5)), 2)

    def test_not_closed(self):
        sheet = Sheet((4,))
        for thing in [*odd_things(), (), (0, 1), (1,), (1, 3), (2,), [0], [0, 2], (0, 4), (2, 0), (0, 2, 4), (0, 0)]:
            for call in ((shifted, thing, 1), (shifts_met, thing, (1,))):
                with self.assertRaises(NotClosed) as caught:
                    call[0](sheet, call[1], call[2])
                self.assertIs(type(caught.exception), NotClosed)

    def test_no_place(self):
        sheet = Sheet((4,))
        for thing in [*odd_things(), 4, 5, 120, (0,), (1,), ()]:
            with self.assertRaises(NoPlace) as caught:
                shifted(sheet, (0, 2), thing)
            self.assertIs(type(caught.exception), NoPlace)

    def test_no_lot(self):
        sheet = Sheet((4,))
        for thing in [*odd_things(), [], [0], [0, 2], 0, 1, (4,), (0, 4), (2, 0), (1, 1), (-1, 0), range(2)]:
            with self.assertRaises(NoLot) as caught:
                shifts_met(sheet, (0, 2), thing)
            self.assertIs(type(caught.exception), NoLot)

    def test_odd_things_in_lots(self):
        for thing in odd_things():
            for lot in ((thing,), (0, thing), (1, thing)):
                with self.assertRaises(NoLot):
                    shifts_met(Sheet((4,)), (0, 2), lot)
                with self.assertRaises(NotClosed):
                    shifted(Sheet((4,)), lot, 0)

    def test_not_closed_is_due_first(self):
        sheet = Sheet((4,))
        for thing in odd_things():
            with self.assertRaises(NotClosed):
                shifted(sheet, (0, 1), thing)
            with self.assertRaises(NotClosed):
                shifts_met(sheet, (0, 1), thing)
            with self.assertRaises(NotClosed):
                shifted(sheet, thing, 4)
            with self.assertRaises(NotClosed):
                shifts_met(sheet, thing, (4,))


class TestNothingChanges(unittest.TestCase):
    def test_sheets_and_lots_stay_as_they_are(self):
        sheet = Sheet((2, 4))
        lot = (0, 2)
        is_closed(sheet, lot)
        closed_lots(sheet)
        spanned(sheet, lot)
        shifted(sheet, lot, 5)
        shifts_met(sheet, lot, (1, 5))
        self.assertEqual(lot, (0, 2))
        self.assertEqual(vars(sheet), vars(Sheet((2, 4))))
        self.assertEqual((sheet.moduli, sheet.places), ((2, 4), 8))

    def test_wrong_arguments_stay_as_they_are(self):
        things = plain_things()
        kept = copies_of(things)
        sheet = Sheet((4,))
        for thing in things:
            is_closed(sheet, thing)
            for call in ((spanned, thing), (shifted, thing, 0), (shifted, (0,), thing), (shifts_met, thing, ()),
                         (shifts_met, (0,), thing)):
                with self.assertRaises((NoLot, NoPlace, NotClosed)):
                    call[0](sheet, *call[1:])
        self.assertEqual(things, kept)


if __name__ == "__main__":
    unittest.main()
