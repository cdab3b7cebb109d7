"""Sheets, and the sums of their places."""

import itertools
import unittest
from unittest import mock

from odd import copies_of, odd_things, plain_things
from roundcopies import sheets
from roundcopies.errors import BadSheet, NoPlace, NoRests
from roundcopies.sheets import Sheet, opposite, place_of, rests, summed

SMALL = ((1,), (2,), (7,), (12,), (1, 1), (1, 5), (5, 1), (2, 3), (3, 2), (4, 4), (2, 6), (1, 1, 1), (2, 2, 2),
         (2, 3, 4), (4, 3, 2), (1, 3, 2), (3, 1, 2), (3, 2, 1))
LARGE = ((120,), (1, 120), (10, 12), (4, 5, 6), (2, 6, 10), (119,))


def all_rests(moduli):
    """The rests of all places, in the order of the places: digits, the first one the highest."""
    return list(itertools.product(*[range(modulus) for modulus in moduli]))


class TestSheet(unittest.TestCase):
    def assert_bad(self, part, moduli):
        with self.assertRaises(BadSheet) as caught:
            Sheet(moduli)
        self.assertIs(type(caught.exception), BadSheet)
        self.assertEqual(caught.exception.part, part, moduli)

    def test_attributes(self):
        for moduli in SMALL + LARGE:
            sheet = Sheet(moduli)
            self.assertEqual(sheet.moduli, moduli)
            self.assertIs(type(sheet.moduli), tuple)
            self.assertEqual(sheet.places, len(all_rests(moduli)))
            self.assertIs(type(sheet.places), int)

    def test_the_edges_that_are_right(self):
        for moduli, places in (((1,), 1), ((120,), 120), ((1, 1, 1), 1), ((1, 120), 120), ((120, 1, 1), 120),
                               ((1, 120, 1), 120), ((2, 60), 120), ((60, 2), 120), ((2, 3, 20), 120), ((7, 17), 119)):
            self.assertEqual((Sheet(moduli).moduli, Sheet(moduli).places), (moduli, places))

    def test_moduli_that_are_no_such_integers(self):
        for number in (0, -1, 121, 10 ** 59, -120, True, False, None, "2", b"2", [2], (2,), {}, Ellipsis, int):
            for moduli in ((number,), (number, 2), (2, number), (1, 1, number), (1, number, 1), (number, 1, 1)):
                self.assert_bad("moduli", moduli)

    def test_moduli_that_are_no_tuple_of_one_to_three(self):
        for moduli in ((), (1, 1, 1, 1), (2, 2, 2, 2), (1,) * 20000, [2], [2, 3], "23", b"\x02", {2: 2}, range(1, 3),
                       None, 2, 0, True, Sheet((2,)), iter((2, 3))):
            self.assert_bad("moduli", moduli)

    def test_odd_things_are_no_moduli(self):
        for thing in odd_things():
            self.assert_bad("moduli", thing)
            self.assert_bad("moduli", (2, thing))

    def test_too_many_places(self):
        for moduli in ((11, 11), (2, 61), (61, 2), (120, 2), (2, 120), (120, 120), (1, 11, 11), (11, 1, 11), (5, 5, 5),
                       (2, 2, 31), (120, 120, 120)):
            self.assert_bad("places", moduli)

    def test_moduli_are_judged_ahead_of_places(self):
        for moduli in ((121, 121), (121, 2), (60, 60, 0), (60, 60, True), (11, 11, 11, 11), [11, 11]):
            self.assert_bad("moduli", moduli)

    def test_all_pairs_about_the_edge(self):
        for one, other in itertools.product(range(0, 123), repeat=2):
            if not (1 <= one <= 120 and 1 <= other <= 120):
                self.assert_bad("moduli", (one, other))
            elif one * other > 120:
                self.assert_bad("places", (one, other))
            else:
                self.assertEqual(Sheet((one, other)).places, one * other)

    def test_equal_just_if_moduli_are(self):
        for one, other in itertools.product(SMALL, repeat=2):
            self.assertIs(Sheet(one) == Sheet(other), one == other)
            self.assertIs(Sheet(one) != Sheet(other), one != other)

    def test_equal_to_no_other_kind(self):
        sheet = Sheet((2, 3))
        lookalike = mock.Mock(moduli=(2, 3), places=6)
        for thing in [*[thing for thing in odd_things() if type(thing) is not Sheet], (2, 3), 6, lookalike, mock.ANY]:
            self.assertIs(sheet == thing, False)
            self.assertIs(sheet != thing, True)
        self.assertFalse(lookalike == sheet)
        self.assertFalse((2, 3) == sheet)


class TestPlaces(unittest.TestCase):
    def test_rests_are_the_digits_of_the_place(self):
        for moduli in SMALL + LARGE:
            sheet = Sheet(moduli)
            found = [rests(sheet, place) for place in range(sheet.places)]
            self.assertEqual(found, all_rests(moduli))
            self.assertTrue(all([type(digits) is tuple for digits in found]))

    def test_three_rests_as_the_document_tells(self):
        sheet = Sheet((2, 3, 4))
        for one, two, three in all_rests((2, 3, 4)):
            self.assertEqual(place_of(sheet, (one, two, three)), (one * 3 + two) * 4 + three)

    def test_place_of_undoes_rests(self):
        for moduli in SMALL + LARGE:
            sheet = Sheet(moduli)
            found = [place_of(sheet, digits) for digits in all_rests(moduli)]
            self.assertEqual(found, list(range(sheet.places)))

    def test_sums_rest_by_rest(self):
        for moduli in SMALL + ((10, 12),):
            sheet = Sheet(moduli)
            known = all_rests(moduli)
            number = {digits: place for place, digits in enumerate(known)}
            for one, other in itertools.product(range(sheet.places), repeat=2):
                digits = tuple([(a + b) % m for a, b, m in zip(known[one], known[other], moduli)])
                self.assertEqual(summed(sheet, one, other), number[digits])

    def test_a_place_and_its_opposite_add_up_to_0(self):
        for moduli in SMALL + LARGE:
            sheet = Sheet(moduli)
            for place in range(sheet.places):
                other = opposite(sheet, place)
                self.assertIn(other, range(sheet.places))
                self.assertEqual(summed(sheet, place, other), 0)

    def test_opposites_by_hand(self):
        self.assertEqual([opposite(Sheet((5,)), place) for place in range(5)], [0, 4, 3, 2, 1])
        self.assertEqual([opposite(Sheet((2, 3)), place) for place in range(6)], [0, 2, 1, 3, 5, 4])

    def test_the_example(self):
        self.assertEqual(summed(Sheet((2, 3)), 5, 4), 0)

    def test_answers_are_integers(self):
        sheet = Sheet((1, 2))
        for answer in (place_of(sheet, (0, 1)), summed(sheet, 0, 0), summed(sheet, 0, 1), opposite(sheet, 1),
                       *rests(sheet, 1)):
            self.assertIs(type(answer), int)


class TestWrongPlaces(unittest.TestCase):
    def wrong_places(self, sheet):
        return [*odd_things(), sheet.places, sheet.places + 1, 120, 121, (0,), (0, 0), (0, 1), (1,), ()]

    def assert_no_place(self, function, *arguments):
        with self.assertRaises(NoPlace) as caught:
            function(*arguments)
        self.assertIs(type(caught.exception), NoPlace)

    def test_things_that_are_no_place(self):
        for moduli in ((1,), (2,), (2, 3), (2, 3, 4)):
            sheet = Sheet(moduli)
            for thing in self.wrong_places(sheet):
                self.assert_no_place(rests, sheet, thing)
                self.assert_no_place(opposite, sheet, thing)
                self.assert_no_place(summed, sheet, thing, 0)
                self.assert_no_place(summed, sheet, 0, thing)
                self.assert_no_place(summed, sheet, thing, thing)

    def test_the_last_place_is_one(self):
        for moduli in SMALL + LARGE:
            sheet = Sheet(moduli)
            last = sheet.places - 1
            self.assertEqual(rests(sheet, last), tuple([modulus - 1 for modulus in moduli]))
            self.assertEqual(summed(sheet, last, opposite(sheet, last)), 0)


class TestWrongRests(unittest.TestCase):
    def assert_no_rests(self, sheet, thing):
        with self.assertRaises(NoRests) as caught:
            place_of(sheet, thing)
        self.assertIs(type(caught.exception), NoRests)

    def test_things_that_are_no_rests(self):
        for thing in [*odd_things(), 0, 1, 5, (), (0,), (0, 0, 0), (0, 3), (2, 0), (2, 3), (-1, 0), (0, -1)]:
            self.assert_no_rests(Sheet((2, 3)), thing)

    def test_rests_are_a_tuple(self):
        for moduli, digits in (((2,), [1]), ((2, 3), [1, 2]), ((2, 3, 4), [1, 2, 3])):
            self.assert_no_rests(Sheet(moduli), digits)
            self.assertEqual(place_of(Sheet(moduli), tuple(digits)), Sheet(moduli).places - 1)

    def test_as_many_rests_as_moduli(self):
        self.assert_no_rests(Sheet((2,)), ())
        self.assert_no_rests(Sheet((2,)), (0, 0))
        self.assert_no_rests(Sheet((2, 3)), (0,))
        self.assert_no_rests(Sheet((2, 3, 4)), (0, 0))
        self.assert_no_rests(Sheet((2, 3, 4)), (0, 0, 0, 0))

    def test_each_rest_is_a_number_below_its_modulus(self):
        sheet = Sheet((2, 3, 4))
        for digits in itertools.product(range(-1, 6), repeat=3):
            right = all([0 <= digit < modulus for digit, modulus in zip(digits, (2, 3, 4))])
            if right:
                self.assertIn(place_of(sheet, digits), range(24))
            else:
                self.assert_no_rests(sheet, digits)

    def test_odd_things_are_no_rest(self):
        for thing in odd_things():
            self.assert_no_rests(Sheet((2,)), (thing,))
            self.assert_no_rests(Sheet((2, 3)), (thing, 0))
            self.assert_no_rests(Sheet((2, 3)), (0, thing))


class TestNothingChanges(unittest.TestCase):
    def test_sheets_stay_as_they_are(self):
        moduli = (2, 3)
        sheet = Sheet(moduli)
        rests(sheet, 4)
        place_of(sheet, (1, 2))
        summed(sheet, 4, 5)
        opposite(sheet, 4)
        self.assertEqual((sheet.moduli, sheet.places), ((2, 3), 6))
        self.assertEqual(vars(sheet), vars(Sheet((2, 3))))

    def test_wrong_arguments_stay_as_they_are(self):
        things = plain_things()
        kept = copies_of(things)
        sheet = Sheet((2, 3))
        for thing in things:
            for call in ((Sheet, thing), (rests, sheet, thing), (opposite, sheet, thing), (summed, sheet, thing, thing)):
                with self.assertRaises((BadSheet, NoPlace)):
                    call[0](*call[1:])
        for thing in [[1, 2], {0: 1}, [[0]]]:
            with self.assertRaises(NoRests):
                place_of(sheet, thing)
        self.assertEqual(things, kept)

    def test_equal_calls_give_equal_answers(self):
        sheet = Sheet((3, 4))
        for place in range(12):
            self.assertEqual(rests(sheet, place), rests(Sheet((3, 4)), place))
            self.assertEqual(opposite(sheet, place), opposite(sheet, place))


class TestInterface(unittest.TestCase):
    def test_names_are_defined_here(self):
        for name in ("Sheet", "rests", "place_of", "summed", "opposite", "is_closed", "closed_lots", "spanned",
                     "shifted", "shifts_met"):
            self.assertEqual(getattr(sheets, name).__module__, "roundcopies.sheets")
        self.assertIn("__eq__", vars(Sheet))


if __name__ == "__main__":
    unittest.main()
