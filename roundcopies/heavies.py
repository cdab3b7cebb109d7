"""Heavy lots: blocks that are asked too often for the boxes that are left to them."""

from roundcopies.deals import boxes_under, heavy_blocks, lots_left, weight_of
from roundcopies.errors import NoFraction, NoLoss
from roundcopies.lots import is_integer_from, is_lot_below
from roundcopies.tables import is_loss


def is_fraction(top, bottom):
    """Whether two things are the top and the bottom of a fraction, perhaps not in lowest terms."""
    most = 10 ** 30
    return is_integer_from(0, most, top) and is_integer_from(1, most, bottom)


def heavy_lot(table, loss, top, bottom):
    """A heavy lot for the fraction top / bottom behind a loss, or None."""
    if not is_loss(table, loss):
        raise NoLoss()
    if not is_fraction(top, bottom):
        raise NoFraction()
    found = heavy_blocks(table, lots_left(table, loss), top, bottom)
    return found if found else None


def is_heavy(table, loss, top, bottom, thing):
    """Whether a thing is a heavy lot for the fraction top / bottom behind a loss."""
    if not is_loss(table, loss):
        raise NoLoss()
    if not is_fraction(top, bottom):
        raise NoFraction()
    if not is_lot_below(len(table.blocks), thing) or len(thing) == 0:
        return False
    lots = lots_left(table, loss)
    if not all([number in lots for number in thing]):
        return False
    return weight_of(table, thing) * bottom > top * boxes_under(lots, thing)
