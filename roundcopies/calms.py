"""The calm: the load that is enough behind every loss of so many boxes."""

from roundcopies.clusters import narrowest, worst_at
from roundcopies.deals import greatest_density
from roundcopies.errors import NoNumber, TooMany
from roundcopies.layouts import copies, table_of
from roundcopies.lots import is_integer_from, is_lot_below
from roundcopies.masks import size_of
from roundcopies.ratios import is_greater, lowest, rounded_up
from roundcopies.sheets import is_closed, shift_by
from roundcopies.within import weights_within

MOST_BOXES_GONE_THROUGH = 12


def check_number(layout, f):
    """Raise NoNumber unless f is a number less than the copies."""
    if not is_integer_from(0, copies(layout) - 1, f):
        raise NoNumber()


def worst_of(layout, f):
    """A cluster that has the calm of a layout at f."""
    check_number(layout, f)
    return worst_at(narrowest(layout), f)


def boxes_of(layout, lot, blocks):
    """The lot of the boxes on which some of the blocks lie that a cluster holds."""
    table = table_of(layout)
    places = layout.sheet.places
    held = {}
    for block in blocks:
        first = block - block % places
        for place in shift_by(layout.sheet, lot, block % places):
            for box in table.blocks[first + place][0]:
                held[box] = True
    return tuple(sorted(held))


def is_cluster(layout, thing):
    """Whether a thing is a cluster of a layout."""
    if not isinstance(thing, tuple) or len(thing) != 2:
        return False
    lot, blocks = thing
    places = layout.sheet.places
    if not is_closed(layout.sheet, lot) or not is_lot_below(len(layout.kinds) * places, blocks):
        return False
    kinds = [block // places for block in blocks]
    return len(blocks) > 0 and len(set(kinds)) == len(kinds)


def calm(layout, f):
    """The least load that is enough behind every loss of f boxes."""
    worst = worst_of(layout, f)
    return lowest(worst.own, worst.boxes - f)


def calm_whole(layout, f):
    """The least load of whole sharings that is enough behind every loss of f boxes."""
    return rounded_up(calm(layout, f))


def worst_cluster(layout, f):
    """A cluster that has the calm at f: a closed lot and blocks."""
    worst = worst_of(layout, f)
    return (worst.lot, worst.blocks)


def is_worst_cluster(layout, f, thing):
    """Whether a thing is a cluster that has the calm at f."""
    check_number(layout, f)
    if not is_cluster(layout, thing):
        return False
    lot, blocks = thing
    own = len(lot) * sum([layout.kinds[block // layout.sheet.places][1] for block in blocks])
    return lowest(own, len(boxes_of(layout, lot, blocks)) - f) == calm(layout, f)


def worst_loss(layout, f):
    """A loss of f boxes behind which the least load is the calm."""
    worst = worst_of(layout, f)
    # Whichever f of its boxes are lost, the cluster has the others alone.
    return boxes_of(layout, worst.lot, worst.blocks)[:f]


def is_worst_loss(layout, f, thing):
    """Whether a thing is a loss of f boxes behind which the least load is the calm."""
    check_number(layout, f)
    if not is_lot_below(layout.sheet.places, thing) or len(thing) != f:
        return False
    return greatest_density(table_of(layout), thing) == calm(layout, f)


def calm_of_table(table, f):
    """The least load that is enough behind every loss of f boxes of any table of few boxes."""
    if not is_integer_from(0, min([len(lot) for lot, _ in table.blocks]) - 1, f):
        raise NoNumber()
    if table.boxes > MOST_BOXES_GONE_THROUGH:
        raise TooMany(MOST_BOXES_GONE_THROUGH)
    worst = (0, 1)
    # The worst loss for a lot of blocks lies among their boxes: it leaves f less of them.
    for mask, weight in enumerate(weights_within(table)):
        if weight > 0 and is_greater((weight, size_of(mask) - f), worst):
            worst = lowest(weight, size_of(mask) - f)
    return worst
