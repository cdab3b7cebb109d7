"""What sharings and heavy lots rest on: asks dealt behind a loss, to boxes with so much room.

The functions take what they are passed as right: the ones of the interface
judge it first.
"""

from roundcopies.flows import Flow
from roundcopies.ratios import lowest


def lots_left(table, loss):
    """A dict from the blocks that are not gone, ascending, to the lots of their boxes that are not lost."""
    lost = {box: True for box in loss}
    lots = [tuple([box for box in lot if box not in lost]) for lot, _ in table.blocks]
    return {number: lot for number, lot in enumerate(lots) if lot}


def weight_of(table, numbers):
    """The weights of some blocks, added."""
    return sum([table.blocks[number][1] for number in numbers])


def boxes_under(lots, numbers):
    """On how many boxes some of these blocks lie."""
    held = {}
    for number in numbers:
        for box in lots[number]:
            held[box] = True
    return len(held)


def flow_on(table, lots, parts, room):
    """The asks of the blocks with lots, cut into parts, dealt to boxes with so much room each."""
    asks = [table.blocks[number][1] * parts for number in lots]
    return Flow(asks, list(lots.values()), [room] * table.boxes)


def heavy_blocks(table, lots, top, bottom):
    """A heavy lot for the fraction top / bottom, or () if there is none."""
    numbers = list(lots)
    flow = flow_on(table, lots, bottom, top)
    return tuple([numbers[at] for at in flow.short])


def greatest_density(table, loss):
    """The least load behind a loss."""
    return density_of(table, lots_left(table, loss))


def density_of(table, lots):
    """The least load of blocks on lots: the greatest fraction of the weights of some to the boxes under them."""
    densest = list(lots)
    fraction = (0, 1)
    # Each heavy lot is denser than what it is too heavy for: the last one is the densest.
    while densest:
        fraction = lowest(weight_of(table, densest), boxes_under(lots, densest))
        densest = heavy_blocks(table, lots, fraction[0], fraction[1])
    return fraction


def rows_borne(table, lots, borne):
    """The rows of a sharing that boxes bear: of the blocks with lots, numbered from 0 on."""
    return {
        number: tuple([borne[box].get(at, 0) for box in table.blocks[number][0]]) for at, number in enumerate(lots)
    }


def rows_of(table, loss, parts, room):
    """The rows of a sharing with so many parts, by which no box bears more than the room that it has."""
    lots = lots_left(table, loss)
    return rows_borne(table, lots, flow_on(table, lots, parts, room).borne)
