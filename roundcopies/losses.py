"""What is lost for good behind the worst loss of so many boxes."""

from itertools import combinations

from roundcopies.errors import NoNumber, TooMany
from roundcopies.lots import is_integer_from
from roundcopies.masks import mask_of
from roundcopies.within import weights_within

MOST_BOXES_GONE_THROUGH = 14


def worst_of(table, many):
    """The greatest sum of weights that are gone behind a loss of so many boxes, and the least such loss."""
    if not is_integer_from(0, table.boxes, many):
        raise NoNumber()
    if table.boxes > MOST_BOXES_GONE_THROUGH:
        raise TooMany(MOST_BOXES_GONE_THROUGH)
    weights = weights_within(table)
    most = -1
    worst = ()
    # Losses come in their order, so that the least one with the most is kept.
    for loss in combinations(range(table.boxes), many):
        weight = weights[mask_of(loss)]
        if weight > most:
            most = weight
            worst = loss
    return most, worst


def most_gone(table, many):
    """The greatest sum of weights of blocks that are gone behind a loss of so many boxes."""
    return worst_of(table, many)[0]


def worst_gone(table, many):
    """The least loss of so many boxes behind which the most is gone."""
    return worst_of(table, many)[1]
