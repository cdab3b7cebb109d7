"""Dealers: functions of a loss that return a sharing behind it, judged for all losses."""

from itertools import combinations

from roundcopies.errors import NoFraction, NoNumber, TooMany
from roundcopies.heavies import is_fraction
from roundcopies.lots import is_integer_from
from roundcopies.ratios import is_greater
from roundcopies.sharings import greatest_load, is_sharing_behind

MOST_BOXES_GONE_THROUGH = 12


def judged_dealer(table, many, top, bottom, dealer):
    """None if a dealer deals rightly behind each loss of at most so many boxes, else the first loss and a word."""
    if not is_integer_from(0, table.boxes, many):
        raise NoNumber()
    if not is_fraction(top, bottom):
        raise NoFraction()
    if table.boxes > MOST_BOXES_GONE_THROUGH:
        raise TooMany(MOST_BOXES_GONE_THROUGH)
    for size in range(many + 1):
        for loss in combinations(range(table.boxes), size):
            word = fault_of(table, loss, (top, bottom), dealer(loss))
            if word is not None:
                return (loss, word)
    return None


def fault_of(table, loss, bound, thing):
    """The word for what is wrong with what a dealer returned, or None."""
    if not is_sharing_behind(table, loss, thing):
        return "sharing"
    return "load" if is_greater(greatest_load(table, thing), bound) else None
