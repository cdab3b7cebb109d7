"""How a box is made anew from the other copies of its blocks."""

from roundcopies.errors import NoOther, NoPlace
from roundcopies.layouts import copies, table_of
from roundcopies.lots import is_integer_from
from roundcopies.ratios import added
from roundcopies.sharings import least_load
from roundcopies.sheets import is_place, sum_of
from roundcopies.tables import Table


def pairs_apart(sheet, steps, apart):
    """How many pairs of steps there are of which the one is the sum of the other and a place."""
    return len([step for step in steps if sum_of(sheet, step, apart) in steps])


def given(layout, step):
    """What the box at the sum of the lost one and a step is asked in all."""
    asked = (0, 1)
    for steps, _ in layout.kinds:
        # The block that had its copy at one step of a pair has another one at the other.
        asked = added(asked, (pairs_apart(layout.sheet, steps, step), len(steps) - 1))
    return asked


def gives(layout, step):
    """What the box at the sum of the lost one and a step is asked in all, a fraction."""
    if copies(layout) < 2:
        raise NoOther()
    if not is_integer_from(1, layout.sheet.places - 1, step):
        raise NoPlace()
    return given(layout, step)


def is_alike(layout):
    """Whether all other boxes give the same."""
    if copies(layout) < 2:
        raise NoOther()
    return len(set([given(layout, step) for step in range(1, layout.sheet.places)])) == 1


def least_reading(layout, box):
    """The least fraction that can be the most that a box is asked, in whatever parts."""
    if copies(layout) < 2:
        raise NoOther()
    if not is_place(layout.sheet, box):
        raise NoPlace()
    lots = [lot for lot, _ in table_of(layout).blocks if box in lot]
    others = tuple([(tuple([other for other in lot if other != box]), 1) for lot in lots])
    return least_load(Table(layout.sheet.places, others), ())
