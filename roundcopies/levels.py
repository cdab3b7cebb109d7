"""Levels: copies moved, as few as can be, so that no box holds more than it must."""

from roundcopies.errors import NoNumber
from roundcopies.lots import is_integer_from, is_lot_below
from roundcopies.masks import least_of, lot_of, mask_of
from roundcopies.tables import MOST_BOXES, Table, laid_anew


def holdings(boxes, lots):
    """How many copies each box holds."""
    held = [0] * boxes
    for lot in lots:
        for box in lot:
            held[box] += 1
    return held


def lots_of(table):
    """The lots of all blocks."""
    return [lot for lot, _ in table.blocks]


def level_of(held):
    """All copies divided by the boxes, rounded up."""
    return (sum(held) + len(held) - 1) // len(held)


def are_level(boxes, lots):
    """Whether no box holds more than the level of all copies."""
    held = holdings(boxes, lots)
    return max(held) <= level_of(held)


def is_level(table):
    """Whether no box holds more than all copies divided by the boxes, rounded up."""
    return are_level(table.boxes, lots_of(table))


def is_relaying(table, thing):
    """Whether a thing tells other boxes for each block, as many as it had, so that the table is level."""
    if not isinstance(thing, tuple) or len(thing) != len(table.blocks):
        return False
    if not all([is_lot_below(table.boxes, lot) for lot in thing]):
        return False
    if any([len(lot) != len(block[0]) for lot, block in zip(thing, table.blocks)]):
        return False
    return are_level(table.boxes, thing)


def fewest_moves(table):
    """How many moves a relaying has at least: what boxes hold above the level."""
    held = holdings(table.boxes, lots_of(table))
    return sum([max(0, many - level_of(held)) for many in held])


def blocks_on(table):
    """For each box the blocks that it holds, as a mask."""
    blocks = [[] for _ in range(table.boxes)]
    for block, lot in enumerate(lots_of(table)):
        for box in lot:
            blocks[box].append(block)
    return [mask_of(held) for held in blocks]


def relaying(table):
    """A relaying with the fewest moves."""
    held = holdings(table.boxes, lots_of(table))
    level = level_of(held)
    masks = blocks_on(table)
    spare = [box for box, many in enumerate(held) if many < level]
    for box in range(table.boxes):
        while held[box] > level:
            other = spare[-1]
            # Who holds more than another one has a block that the other one has not.
            bit = 1 << least_of(masks[box] - (masks[box] & masks[other]))
            masks[box] -= bit
            masks[other] += bit
            held[box] -= 1
            held[other] += 1
            if held[other] == level:
                spare.pop()
    lots = [[] for _ in table.blocks]
    for box, mask in enumerate(masks):
        for block in lot_of(mask):
            lots[block].append(box)
    return tuple([tuple(lot) for lot in lots])


def grown(table, more):
    """The table with so many empty boxes more."""
    if not is_integer_from(0, MOST_BOXES - table.boxes, more):
        raise NoNumber()
    return Table(table.boxes + more, table.blocks)


def relaid(table):
    """The table of a relaying with the fewest moves."""
    return laid_anew(table, relaying(table))
