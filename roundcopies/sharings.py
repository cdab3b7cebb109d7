"""Sharings: how the asks of blocks are dealt to the boxes that a loss leaves."""

from roundcopies.deals import greatest_density, lots_left, rows_of
from roundcopies.errors import NoLoss, NoSharing
from roundcopies.lots import is_integer_above
from roundcopies.ratios import lowest, rounded_up
from roundcopies.tables import is_loss


def is_row(block, lot_left, parts, thing):
    """Whether a thing tells for each box of a block how many parts of its asks it bears."""
    lot, weight = block
    if not isinstance(thing, tuple) or len(thing) != len(lot):
        return False
    if not all([is_integer_above(-1, many) for many in thing]):
        return False
    if any([many > 0 for box, many in zip(lot, thing) if box not in lot_left]):
        return False
    return sum(thing) == weight * parts


def is_sharing_behind(table, loss, thing):
    """Whether a thing is a sharing behind a loss, which is taken as right."""
    if not isinstance(thing, tuple) or len(thing) != 2:
        return False
    parts, rows = thing
    if not is_integer_above(0, parts) or not isinstance(rows, dict):
        return False
    lots = lots_left(table, loss)
    if len(rows) != len(lots) or not all([number in rows for number in lots]):
        return False
    return all([is_row(table.blocks[number], lot, parts, rows[number]) for number, lot in lots.items()])


def loads_of(table, rows):
    """How many parts each box bears."""
    loads = [0] * table.boxes
    for number, row in rows.items():
        for box, many in zip(table.blocks[number][0], row):
            loads[box] += many
    return loads


def greatest_load(table, sharing):
    """The greatest load of a box by a sharing, which is taken as right."""
    parts, rows = sharing
    return lowest(max(loads_of(table, rows)), parts)


def is_sharing(table, loss, thing):
    """Whether a thing is a sharing behind a loss."""
    if not is_loss(table, loss):
        raise NoLoss()
    return is_sharing_behind(table, loss, thing)


def load_of(table, loss, sharing):
    """The greatest load of a box by a sharing behind a loss."""
    if not is_loss(table, loss):
        raise NoLoss()
    if not is_sharing_behind(table, loss, sharing):
        raise NoSharing()
    return greatest_load(table, sharing)


def least_load(table, loss):
    """The least fraction that is the greatest load of a sharing behind a loss."""
    if not is_loss(table, loss):
        raise NoLoss()
    return greatest_density(table, loss)


def sharing(table, loss):
    """A sharing behind a loss that has the least load."""
    top, bottom = least_load(table, loss)
    return (bottom, rows_of(table, loss, bottom, top))


def whole_sharing(table, loss):
    """A whole sharing behind a loss whose greatest load is the least of a whole one."""
    return (1, rows_of(table, loss, 1, least_whole(table, loss)))


def least_whole(table, loss):
    """The least greatest load of a whole sharing behind a loss."""
    return rounded_up(least_load(table, loss))
