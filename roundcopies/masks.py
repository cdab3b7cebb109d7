"""Lots as integers with a bit for each number: many numbers are looked at at once."""


def mask_of(lot):
    """The integer that has the bits of a lot."""
    mask = 0
    for number in lot:
        mask = mask | 1 << number
    return mask


def lot_of(mask):
    """The lot of the bits of an integer."""
    found = []
    left = mask
    while left:
        found.append(least_of(left))
        left = left & (left - 1)
    return tuple(found)


def least_of(mask):
    """The least bit of an integer above 0."""
    return (mask & -mask).bit_length() - 1


def size_of(mask):
    """How many bits an integer has."""
    digits = f"{mask:b}"
    return digits.count("1")


def joined_masks(masks):
    """The integer that has the bits of all."""
    found = 0
    for mask in masks:
        found = found | mask
    return found
