"""What arguments are judged by: integers within bounds, and lots."""


def is_integer_from(low, high, thing):
    """Whether a thing is an integer from low to high; True and False are none."""
    if not isinstance(thing, int) or isinstance(thing, bool):
        return False
    return low <= thing <= high


def is_integer_above(low, thing):
    """Whether a thing is an integer greater than low, however great; True and False are none."""
    return isinstance(thing, int) and not isinstance(thing, bool) and thing > low


def is_lot_below(bound, thing):
    """Whether a thing is a lot of numbers below a bound."""
    if not isinstance(thing, tuple):
        return False
    # Only integers may be compared: other things raise errors of their own.
    if not all([is_integer_from(0, bound - 1, item) for item in thing]):
        return False
    return all([one < other for one, other in zip(thing, thing[1:])])
