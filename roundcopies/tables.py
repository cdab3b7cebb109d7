"""Tables of copies: which boxes hold each block, and what a loss takes."""

from roundcopies.errors import BadTable, NoLoss
from roundcopies.lots import is_integer_from, is_lot_below

MOST_BOXES = 120
MOST_BLOCKS = 360
MOST_WEIGHT = 1000000


class Table:
    """Boxes, and blocks that lie on them: pairs of a lot of boxes and a weight."""

    def __init__(self, boxes, blocks):
        if not is_integer_from(1, MOST_BOXES, boxes):
            raise BadTable("boxes")
        if not isinstance(blocks, tuple) or not 1 <= len(blocks) <= MOST_BLOCKS:
            raise BadTable("blocks")
        for number, thing in enumerate(blocks):
            if not is_block(boxes, thing):
                raise BadTable(number)
        self.boxes = boxes
        self.blocks = blocks

    def __eq__(self, other):
        return isinstance(other, Table) and self.boxes == other.boxes and self.blocks == other.blocks


def is_block(boxes, thing):
    """Whether a thing is a block of a table of so many boxes."""
    if not isinstance(thing, tuple) or len(thing) != 2:
        return False
    lot, weight = thing
    if not is_lot_below(boxes, lot) or len(lot) == 0:
        return False
    return is_integer_from(1, MOST_WEIGHT, weight)


def is_loss(table, thing):
    """Whether a thing is a lot of boxes of the table."""
    return is_lot_below(table.boxes, thing)


def gone(table, loss):
    """The lot of the blocks all of whose boxes are lost."""
    if not is_loss(table, loss):
        raise NoLoss()
    return tuple([
        number for number, block in enumerate(table.blocks) if all([box in loss for box in block[0]])
    ])


def laid_anew(table, lots):
    """The table with the same boxes and weights whose blocks are on other boxes, which may come in any order."""
    return Table(table.boxes, tuple([
        (tuple(sorted(lot)), weight) for lot, (_, weight) in zip(lots, table.blocks)
    ]))
