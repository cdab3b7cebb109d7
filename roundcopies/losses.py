"""What is lost for good behind the worst loss of so many boxes."""

from itertools import combinations

from roundcopies.errors import NoNumber, TooMany
from roundcopies.lots import is_integer_from
from roundcopies.masks import lot_of, mask_of, size_of
from roundcopies.within import weights_within

MOST_BOXES_GONE_THROUGH = 14


def worst_of(table, many):
    """The greatest sum of weights that are gone behind a loss of so many boxes, and the least such loss."""
    if not is_integer_from(0, table.boxes, many):
        raise NoNumber()
    if table.boxes > MOST_BOXES_GONE_THROUGH:
        raise TooMany(MOST_BOXES_GONE_THROUGH)
    lots = weights_of_lots(table, many)
    # Sets of lots are gone through sooner than sets of boxes, unless there are more of them.
    if len(lots) <= table.boxes:
        return worst_by_lots(table.boxes, many, lots)
    return worst_by_boxes(table, many)


def weights_of_lots(table, many):
    """A dict from the lots of at most so many boxes, as masks, to the weights of the blocks on them, added."""
    weights = {}
    for lot, weight in table.blocks:
        if len(lot) <= many:
            # The first box has the highest bit, so that of losses of as many boxes the least is the greatest mask.
            mask = mask_of([table.boxes - 1 - box for box in lot])
            weights[mask] = weights.get(mask, 0) + weight
    return weights


def filled_up(boxes, many, mask):
    """The mask of the least loss of so many boxes that has the bits of a mask."""
    short = many - size_of(mask)
    for number in reversed(range(boxes)):
        if short == 0:
            return mask
        if not mask & 1 << number:
            mask = mask | 1 << number
            short -= 1
    return mask


def worst_by_lots(boxes, many, weights):
    """The greatest weight and its least loss, by the sets of lots that may be lost together."""
    joined = [(0, 0)]
    left = sum(list(weights.values()))
    # The heaviest lots come first, so that what cannot come up to the most any more is soon dropped.
    for lot, weight in sorted(weights.items(), key=lambda pair: -pair[1]):
        left -= weight
        wider = [(own + weight, mask | lot) for own, mask in joined]
        joined = joined + [(own, mask) for own, mask in wider if size_of(mask) <= many]
        most = max([own for own, _ in joined])
        joined = [(own, mask) for own, mask in joined if own + left >= most]
    worst = max([filled_up(boxes, many, mask) for _, mask in joined])
    return joined[0][0], tuple([boxes - 1 - number for number in reversed(lot_of(worst))])


def worst_by_boxes(table, many):
    """The greatest weight and its least loss, by the sets of boxes."""
    weights = weights_within(table)
    most = -1
    worst = ()
    # Losses come in their order, so that the least one with the most is kept.
    for loss in combinations(range(table.boxes), many):
        weight = weights[mask_of(loss)]
        if weight > most:
            most = weight
            worst = loss
    return most, worst


def most_gone(table, many):
    """The greatest sum of weights of blocks that are gone behind a loss of so many boxes."""
    return worst_of(table, many)[0]


def worst_gone(table, many):
    """The least loss of so many boxes behind which the most is gone."""
    return worst_of(table, many)[1]
