"""Sheets of places that come round, and their closed lots.

The functions of the interface judge what they are passed; the ones that they
share take it as right, so that inner loops do not judge it again.
"""

from roundcopies.errors import BadSheet, NoLot, NoPlace, NoRests, NotClosed
from roundcopies.lots import is_integer_from, is_lot_below

MOST_MODULI = 3
MOST_PLACES = 120


class Sheet:
    """A ring, or a sheet that comes round in two or three ways."""

    def __init__(self, moduli):
        if not is_moduli(moduli):
            raise BadSheet("moduli")
        places = product_of(moduli)
        if places > MOST_PLACES:
            raise BadSheet("places")
        self.moduli = moduli
        self.places = places

    def __eq__(self, other):
        return isinstance(other, Sheet) and self.moduli == other.moduli


def is_moduli(thing):
    """Whether a thing is a tuple of integers that a sheet can have, each by itself."""
    if not isinstance(thing, tuple) or not 1 <= len(thing) <= MOST_MODULI:
        return False
    return all([is_integer_from(1, MOST_PLACES, item) for item in thing])


def product_of(numbers):
    """All numbers multiplied."""
    found = 1
    for number in numbers:
        found = found * number
    return found


def is_place(sheet, thing):
    """Whether a thing is a place of the sheet."""
    return is_integer_from(0, sheet.places - 1, thing)


def is_rests(sheet, thing):
    """Whether a thing is a tuple of one rest for each modulus."""
    if not isinstance(thing, tuple) or len(thing) != len(sheet.moduli):
        return False
    return all([is_integer_from(0, modulus - 1, item) for item, modulus in zip(thing, sheet.moduli)])


def rests_at(sheet, place):
    """The rests of a place: its digits, the first one the highest."""
    found = []
    left = place
    for modulus in reversed(sheet.moduli):
        found.append(left % modulus)
        left = left // modulus
    return tuple(reversed(found))


def place_at(sheet, digits):
    """The place that has these rests."""
    place = 0
    for digit, modulus in zip(digits, sheet.moduli):
        place = place * modulus + digit
    return place


def sum_of(sheet, one, other):
    """The sum of two places: digit by digit, the lowest first, with nothing carried."""
    place = 0
    unit = 1
    for modulus in reversed(sheet.moduli):
        place += unit * ((one + other) % modulus)
        one = one // modulus
        other = other // modulus
        unit = unit * modulus
    return place


def shift_by(sheet, lot, place):
    """The lot of the sums of a place and each place of a lot."""
    return tuple(sorted([sum_of(sheet, place, one) for one in lot]))


def joined(sheet, lot, place):
    """The least closed lot that holds a closed lot and a place."""
    found = list(lot)
    multiple = place
    # The shifts by multiples are apart until a multiple is in the lot again.
    while multiple not in lot:
        found.extend(shift_by(sheet, lot, multiple))
        multiple = sum_of(sheet, multiple, place)
    return tuple(sorted(found))


def span_of(sheet, lot):
    """The least closed lot that holds all places of a lot."""
    found = (0,)
    for place in lot:
        found = joined(sheet, found, place)
    return found


def shifts_of(sheet, lot):
    """The shifts of a closed lot, each once, by their least places."""
    found = []
    held = {}
    for place in range(sheet.places):
        if place not in held:
            shift = shift_by(sheet, lot, place)
            found.append(shift)
            for one in shift:
                held[one] = True
    return found


def rests(sheet, place):
    """The tuple of the rests of a place."""
    if not is_place(sheet, place):
        raise NoPlace()
    return rests_at(sheet, place)


def place_of(sheet, rests):
    """The place that has these rests."""
    if not is_rests(sheet, rests):
        raise NoRests()
    return place_at(sheet, rests)


def summed(sheet, one, other):
    """The sum of two places, rest by rest."""
    if not is_place(sheet, one) or not is_place(sheet, other):
        raise NoPlace()
    return sum_of(sheet, one, other)


def opposite(sheet, place):
    """The place whose sum with this one is 0."""
    if not is_place(sheet, place):
        raise NoPlace()
    digits = rests_at(sheet, place)
    return place_at(sheet, [(modulus - digit) % modulus for digit, modulus in zip(digits, sheet.moduli)])


def is_closed(sheet, thing):
    """Whether a thing is a lot of places that holds 0 and the sum of any two of it."""
    if not is_lot_below(sheet.places, thing):
        return False
    # Just the closed lots span no more than themselves.
    return span_of(sheet, thing) == thing


def closed_lots(sheet):
    """The ascending list of all closed lots."""
    known = {(0,): True}
    waiting = [(0,)]
    while waiting:
        lot = waiting.pop()
        # All places of one shift lead to the same wider lot: its least one will do.
        for shift in shifts_of(sheet, lot):
            wider = joined(sheet, lot, shift[0])
            if wider not in known:
                known[wider] = True
                waiting.append(wider)
    return sorted(known)


def spanned(sheet, lot):
    """The least closed lot that holds all places of a lot."""
    if not is_lot_below(sheet.places, lot):
        raise NoLot()
    return span_of(sheet, lot)


def shifted(sheet, lot, place):
    """The shift of a closed lot by a place."""
    if not is_closed(sheet, lot):
        raise NotClosed()
    if not is_place(sheet, place):
        raise NoPlace()
    return shift_by(sheet, lot, place)


def shifts_met(sheet, lot, places):
    """In how many shifts of a closed lot the places of another lot lie."""
    if not is_closed(sheet, lot):
        raise NotClosed()
    if not is_lot_below(sheet.places, places):
        raise NoLot()
    return len([shift for shift in shifts_of(sheet, lot) if any([place in shift for place in places])])
