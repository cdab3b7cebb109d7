"""Layouts: copies laid by steps from each place of a sheet, and their tables."""

from roundcopies.errors import BadLayout
from roundcopies.lots import is_integer_from, is_lot_below
from roundcopies.sheets import Sheet, sum_of
from roundcopies.tables import MOST_WEIGHT, Table

MOST_KINDS = 3
MOST_STEPS = 8


class Layout:
    """A sheet with kinds of blocks: pairs of a lot of steps and a weight."""

    def __init__(self, sheet, kinds):
        if not isinstance(sheet, Sheet):
            raise BadLayout("sheet")
        if not isinstance(kinds, tuple) or not 1 <= len(kinds) <= MOST_KINDS:
            raise BadLayout("kinds")
        for number, thing in enumerate(kinds):
            if not is_kind(sheet, thing):
                raise BadLayout(number)
        self.sheet = sheet
        self.kinds = kinds

    def __eq__(self, other):
        return isinstance(other, Layout) and self.sheet == other.sheet and self.kinds == other.kinds


def is_kind(sheet, thing):
    """Whether a thing is a kind of blocks on a sheet."""
    if not isinstance(thing, tuple) or len(thing) != 2:
        return False
    steps, weight = thing
    if not is_lot_below(sheet.places, steps) or not 1 <= len(steps) <= MOST_STEPS:
        return False
    return is_integer_from(1, MOST_WEIGHT, weight)


def boxes_at(sheet, steps, place):
    """The lot of the boxes at the sums of a place and each step."""
    return tuple(sorted([sum_of(sheet, place, step) for step in steps]))


def table_of(layout):
    """The table of a layout: its blocks kind by kind, place by place."""
    sheet = layout.sheet
    places = range(sheet.places)
    return Table(sheet.places, tuple([
        (boxes_at(sheet, steps, place), weight) for steps, weight in layout.kinds for place in places
    ]))


def copies(layout):
    """The fewest steps of a kind."""
    return min([len(steps) for steps, _ in layout.kinds])


def layout_of(sheet, table):
    """The layout on a sheet whose table it is, or None."""
    # The block of a kind at the place 0 lies on the very steps of the kind.
    kinds = table.blocks[::sheet.places]
    if len(kinds) > MOST_KINDS or not all([is_kind(sheet, kind) for kind in kinds]):
        return None
    layout = Layout(sheet, kinds)
    return layout if table_of(layout) == table else None
