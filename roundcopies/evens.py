"""Where the load stays exactly even, and which steps keep it so."""

from itertools import combinations

from roundcopies.clusters import narrowest, shift_numbers, worst_at
from roundcopies.errors import NoNumber, TooMany
from roundcopies.layouts import copies
from roundcopies.lots import is_integer_from
from roundcopies.sheets import closed_lots, shifts_of

MOST_PLACES_GONE_THROUGH = 16
MOST_EVEN_STEPS = 5


def is_even_with(layout, clusters, f):
    """Whether a layout, whose narrowest clusters these are, is even at f."""
    places = layout.sheet.places
    every = places * sum([weight for _, weight in layout.kinds])
    worst = worst_at(clusters, f)
    return worst.own * (places - f) == every * (worst.boxes - f)


def is_even_at(layout, f):
    """Whether the calm at f is all weights divided by the boxes that are left."""
    if not is_integer_from(0, copies(layout) - 1, f):
        raise NoNumber()
    return is_even_with(layout, narrowest(layout), f)


def even_to(layout):
    """The greatest f, below the copies, at which a layout is even."""
    clusters = narrowest(layout)
    return max([f for f in range(copies(layout)) if is_even_with(layout, clusters, f)])


def shifts_by_place(sheet):
    """For each closed lot how many places it has, and for each place the number of the shift that it is in."""
    return [(len(lot), shift_numbers(sheet.places, shifts_of(sheet, lot))) for lot in closed_lots(sheet)]


def are_even(places, lots, steps):
    """Whether one kind with these steps, of weight 1, is even at one less than the steps."""
    f = len(steps) - 1
    for size, numbers in lots:
        met = len(set([numbers[step] for step in steps]))
        if size * (places - f) > places * (met * size - f):
            return False
    return True


def even_steps(sheet, many):
    """The ascending list of the lots of so many steps, 0 among them, that are even as far as can be."""
    if sheet.places > MOST_PLACES_GONE_THROUGH:
        raise TooMany(MOST_PLACES_GONE_THROUGH)
    if not is_integer_from(1, min(MOST_EVEN_STEPS, sheet.places), many):
        raise NoNumber()
    lots = shifts_by_place(sheet)
    return [steps for steps in lots_with_0(sheet.places, many - 1) if are_even(sheet.places, lots, steps)]


def lots_with_0(places, more):
    """The ascending list of the lots of 0 and so many more places."""
    return [(0, *others) for others in combinations(range(1, places), more)]
