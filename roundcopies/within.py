"""The weights of the blocks that lie within sets of boxes, for tables of few boxes."""

from roundcopies.masks import mask_of


def weights_within(table):
    """For each set of boxes, as a mask, the weights of the blocks all of whose boxes are in it, added."""
    masks = range(1 << table.boxes)
    weights = [0] * len(masks)
    for lot, weight in table.blocks:
        weights[mask_of(lot)] += weight
    # Box by box: each set with the box takes over what lies within it without the box.
    for box in range(table.boxes):
        bit = 1 << box
        for mask in masks:
            if mask & bit:
                weights[mask] += weights[mask - bit]
    return weights
