"""Asks dealt once more with as few of them moved as can be: a cheapest flow.

What was dealt ahead stays where it may. The asks that are left are dealt one by
one, each by a cheapest way, on which asks push others on from box to box: an ask
that is moved costs 1, one that comes back costs 1 less. Ways never get cheaper.
"""


class Redeal:
    """Asks of blocks, dealt to boxes of their lots, which have room for all of them.

    ahead has for each block a dict from boxes to how many of its asks they bore,
    or None for a block whose asks cost nothing wherever they are dealt. borne has
    for each box a dict from blocks to how many of their asks it bears now.
    """

    def __init__(self, asks, lots, rooms, ahead):
        self.left = list(asks)
        self.lots = list(lots)
        self.rooms = list(rooms)
        self.ahead = list(ahead)
        self.borne = [{} for _ in rooms]
        self.last_cost = 0
        # The cheapest ways that a search found: their costs, and what stands ahead on them.
        self.block_costs = {}
        self.box_costs = {}
        self.pushers = {}
        self.pushed_off = {}
        self.keep()
        while any([left > 0 for left in self.left]):
            self.deal_one()

    def keep(self):
        """Leave asks where they were, as far as boxes have room."""
        for block, kept in enumerate(self.ahead):
            if kept is not None:
                for box in self.lots[block]:
                    many = min(kept.get(box, 0), self.rooms[box])
                    if many > 0:
                        self.borne[box][block] = many
                        self.left[block] -= many
                        self.rooms[box] -= many

    def price(self, block, box):
        """What it costs that a box bears one more ask of a block."""
        kept = self.ahead[block]
        if kept is None or self.borne[box].get(block, 0) < kept.get(box, 0):
            return 0
        return 1

    def refund(self, block, box):
        """What it spares that a box bears one ask of a block less."""
        kept = self.ahead[block]
        if kept is None or self.borne[box][block] <= kept.get(box, 0):
            return 0
        return 1

    def deal_one(self):
        """Deal one ask that is left by a cheapest way."""
        box = self.cheapest_room()
        self.last_cost = self.box_costs[box]
        self.rooms[box] -= 1
        while box is not None:
            block = self.pushers[box]
            self.borne[box][block] = self.borne[box].get(block, 0) + 1
            box = self.pushed_off.get(block)
            if box is None:
                self.left[block] -= 1
            else:
                self.take_off(block, box)

    def take_off(self, block, box):
        """Let a box bear one ask of a block less."""
        self.borne[box][block] -= 1
        if self.borne[box][block] == 0:
            del self.borne[box][block]

    def cheapest_room(self):
        """A box with room to which a cheapest way leads from some ask that is left."""
        front = [block for block, left in enumerate(self.left) if left > 0]
        self.block_costs = {block: 0 for block in front}
        self.box_costs = {}
        self.pushers = {}
        self.pushed_off = {}
        while front:
            reached = self.reach_boxes(front)
            for box in reached:
                # No way is cheaper than the last one: the first that is as cheap will do.
                if self.rooms[box] > 0 and self.box_costs[box] <= self.last_cost:
                    return box
            front = self.reach_blocks(reached)
        spare = [box for box in self.box_costs if self.rooms[box] > 0]
        return min(spare, key=lambda one: self.box_costs[one])

    def reach_boxes(self, front):
        """The boxes that blocks lead to by ways that are cheaper than known."""
        reached = {}
        for block in front:
            for box in self.lots[block]:
                cost = self.block_costs[block] + self.price(block, box)
                if box not in self.box_costs or cost < self.box_costs[box]:
                    self.box_costs[box] = cost
                    self.pushers[box] = block
                    reached[box] = True
        return list(reached)

    def reach_blocks(self, front):
        """The blocks that boxes lead to, as they bear asks of them, by ways that are cheaper than known."""
        reached = {}
        for box in front:
            for block in self.borne[box]:
                cost = self.box_costs[box] - self.refund(block, box)
                if block not in self.block_costs or cost < self.block_costs[block]:
                    self.block_costs[block] = cost
                    self.pushed_off[block] = box
                    reached[block] = True
        return list(reached)
