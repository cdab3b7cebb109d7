"""How a whole sharing is changed, when another loss comes, by as few moves as can be."""

from roundcopies.deals import density_of, flow_on, lots_left, rows_borne
from roundcopies.errors import NoLoss, NoSharing, TooMany
from roundcopies.ratios import rounded_up
from roundcopies.redeals import Redeal
from roundcopies.sharings import is_sharing_behind
from roundcopies.tables import is_loss

MOST_ASKS = 400


def is_whole(table, loss, thing):
    """Whether a thing is a whole sharing behind a loss."""
    return is_sharing_behind(table, loss, thing) and thing[0] == 1


def moved(table, loss, sharing, later, then):
    """How many asks are moved from a whole sharing behind a loss to one behind a later loss."""
    if not is_loss(table, loss) or not is_loss(table, later):
        raise NoLoss()
    if not is_whole(table, loss, sharing) or not is_whole(table, later, then):
        raise NoSharing()
    return moves_between(sharing[1], then[1])


def moves_between(ahead, then):
    """How many asks are dealt to other boxes, of the blocks that both rows have."""
    many = 0
    for number, row in then.items():
        if number in ahead:
            many += sum([max(0, more - less) for less, more in zip(ahead[number], row)])
    return many


def least_moves(table, loss, sharing, later):
    """A whole sharing behind a later loss, with the least greatest load, for which the fewest asks are moved."""
    if not is_loss(table, loss) or not is_loss(table, later):
        raise NoLoss()
    if not is_whole(table, loss, sharing):
        raise NoSharing()
    check_asks(table)
    return (1, rows_anew(table, lots_left(table, later), sharing[1]))


def check_asks(table):
    """Raise TooMany if all weights come to more than can be dealt one by one."""
    if sum([weight for _, weight in table.blocks]) > MOST_ASKS:
        raise TooMany(MOST_ASKS)


def rows_anew(table, lots, ahead):
    """Whole rows of the blocks with lots, with the least greatest load, that move the fewest asks from rows ahead."""
    room = rounded_up(density_of(table, lots))
    # A flow is found much sooner, where no asks can be moved.
    if not ahead:
        return rows_borne(table, lots, flow_on(table, lots, 1, room).borne)
    asks = [table.blocks[number][1] for number in lots]
    borne = [borne_ahead(table, ahead, number) for number in lots]
    redeal = Redeal(asks, list(lots.values()), [room] * table.boxes, borne)
    return rows_borne(table, lots, redeal.borne)


def borne_ahead(table, rows, number):
    """The dict from the boxes of a block to how many of its asks they bear, or None for a block without a row."""
    if number not in rows:
        return None
    return {box: many for box, many in zip(table.blocks[number][0], rows[number])}


def fewest_moved(table, loss, sharing, later):
    """How many asks are moved at least."""
    then = least_moves(table, loss, sharing, later)
    return moves_between(sharing[1], then[1])
