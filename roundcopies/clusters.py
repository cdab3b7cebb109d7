"""Clusters of a layout: what is asked most heavily behind the worst loss.

With a told closed lot and told kinds a cluster holds the same weights wherever
its blocks lie: just the one on the fewest boxes can be the worst, at each f. A
sheet looks alike from each place, so that the first block may stay at 0.
"""

from itertools import combinations

from roundcopies.layouts import table_of
from roundcopies.masks import joined_masks, mask_of, size_of
from roundcopies.sheets import closed_lots, shifts_of


class Cluster:
    """Blocks with a closed lot, the weights that they hold, and on how many boxes."""

    def __init__(self, lot, blocks, own, boxes):
        self.lot = lot
        self.blocks = blocks
        self.own = own
        self.boxes = boxes


def shift_numbers(places, shifts):
    """For each place the number of the shift that it is in."""
    numbers = [0] * places
    for number, shift in enumerate(shifts):
        for place in shift:
            numbers[place] = number
    return numbers


def shifts_under(layout, table, shifts):
    """For each kind, and each shift that its blocks may be in, the shifts that their boxes are in, as a mask."""
    places = layout.sheet.places
    numbers = shift_numbers(places, shifts)
    # All places of one shift lead to the same shifts: its least one will do.
    return [
        [mask_of([numbers[box] for box in table.blocks[kind * places + shift[0]][0]]) for shift in shifts]
        for kind in range(len(layout.kinds))
    ]


def fewest_shifts(rows):
    """The numbers of one shift for each kind, by which the fewest shifts are met in all."""
    found = [((0,), rows[0][0])]
    for row in rows[1:]:
        found = [((*chosen, at), met | mask) for chosen, met in found for at, mask in enumerate(row)]
    return min(found, key=lambda pair: size_of(pair[1]))[0]


def lots_of_kinds(many):
    """All lots of at least one of so many kinds."""
    return [kinds for size in range(1, many + 1) for kinds in combinations(range(many), size)]


def narrowest_of(layout, lot, shifts, rows, kinds):
    """The cluster with this closed lot and these kinds that lies on the fewest boxes."""
    chosen = fewest_shifts([rows[kind] for kind in kinds])
    met = joined_masks([rows[kind][at] for kind, at in zip(kinds, chosen)])
    blocks = tuple([kind * layout.sheet.places + shifts[at][0] for kind, at in zip(kinds, chosen)])
    own = len(lot) * sum([layout.kinds[kind][1] for kind in kinds])
    return Cluster(lot, blocks, own, len(lot) * size_of(met))


def narrowest(layout):
    """For each closed lot and each lot of kinds a cluster that lies on the fewest boxes."""
    table = table_of(layout)
    found = []
    for lot in closed_lots(layout.sheet):
        shifts = shifts_of(layout.sheet, lot)
        rows = shifts_under(layout, table, shifts)
        for kinds in lots_of_kinds(len(layout.kinds)):
            found.append(narrowest_of(layout, lot, shifts, rows, kinds))
    return found


def worst_at(clusters, f):
    """The first of some clusters whose weights, to its boxes less f, are the greatest fraction."""
    worst = clusters[0]
    for cluster in clusters:
        if cluster.own * (worst.boxes - f) > worst.own * (cluster.boxes - f):
            worst = cluster
    return worst
