"""Asks dealt to boxes that have so much room, as many as can be.

A greatest flow: asks that find no room push others on, from box to box, by the
shortest ways first.
"""

from roundcopies.masks import joined_masks, least_of, lot_of, mask_of


class Flow:
    """Asks of blocks, each dealt to boxes of its lot as far as all have room.

    once tells whether no box may bear two asks of one block. borne has for each
    box a dict from blocks to how many of their asks it bears, left for each block
    how many found no room. short is the lot of the blocks that asks without room
    could be dealt to, full that of the boxes: these have no room left.
    """

    def __init__(self, asks, lots, rooms, once=False):
        self.once = once
        self.left = list(asks)
        self.rooms = list(rooms)
        self.borne = [{} for _ in rooms]
        self.masks = [mask_of(lot) for lot in lots]
        self.heights = {}
        self.layers = []
        while self.search():
            self.fill()
        self.short = tuple(sorted(self.heights))
        self.full = lot_of(joined_masks(self.layers))

    def search(self):
        """Find how far blocks and boxes are from asks that are left; whether room is found."""
        spare = mask_of([box for box, room in enumerate(self.rooms) if room > 0])
        front = [block for block, left in enumerate(self.left) if left > 0]
        self.heights = {block: 0 for block in front}
        self.layers = []
        seen = 0
        while front:
            reached = joined_masks([self.masks[block] for block in front])
            layer = reached - (reached & seen)
            self.layers.append(layer)
            # Longer ways are left to later searches: only so they stay few.
            if layer & spare:
                return True
            seen = seen | layer
            front = self.borne_on(layer)
            for block in front:
                self.heights[block] = len(self.layers)
        return False

    def borne_on(self, layer):
        """The blocks, not reached before, that boxes bear asks of."""
        found = {}
        for box in lot_of(layer):
            for block in self.borne[box]:
                if block not in self.heights:
                    found[block] = True
        return list(found)

    def fill(self):
        """Deal asks that are left by ways of the length that was found, until there is none."""
        roots = [block for block, height in self.heights.items() if height == 0]
        for root in roots:
            blocks, boxes = self.way_from(root)
            while boxes:
                self.pour(blocks, boxes)
                blocks, boxes = self.way_from(root)

    def way_from(self, root):
        """A way for asks of a block: blocks, and the boxes that they are pushed to; no boxes if there is none."""
        blocks = [root]
        boxes = []
        while self.left[root] > 0:
            layer = self.layers[len(boxes)]
            choice = self.masks[blocks[-1]] & layer
            if choice == 0:
                # What leads nowhere is not tried again, until the next search.
                self.heights[blocks.pop()] = -1
                if not boxes:
                    return [], []
                boxes.pop()
                continue
            box = least_of(choice)
            if self.rooms[box] > 0:
                return blocks, boxes + [box]
            onward = [block for block in self.borne[box] if self.heights.get(block, -1) == len(blocks)]
            if onward:
                boxes.append(box)
                blocks.append(onward[0])
            else:
                self.layers[len(boxes)] = layer - (1 << box)
        return [], []

    def pour(self, blocks, boxes):
        """Deal as many asks by a way as it lets."""
        pushed = [self.borne[box][block] for box, block in zip(boxes, blocks[1:])]
        many = 1 if self.once else min([self.left[blocks[0]], self.rooms[boxes[-1]], *pushed])
        for box, block in zip(boxes, blocks):
            self.borne[box][block] = self.borne[box].get(block, 0) + many
            if self.once:
                self.masks[block] -= 1 << box
        for box, block in zip(boxes, blocks[1:]):
            self.borne[box][block] = self.borne[box][block] - many
            if self.borne[box][block] == 0:
                del self.borne[box][block]
            if self.once:
                self.masks[block] += 1 << box
        self.left[blocks[0]] -= many
        self.rooms[boxes[-1]] -= many
