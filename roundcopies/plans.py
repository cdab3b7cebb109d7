"""Plans: how copies are made again in as few turns as can be.

Giving and getting may each be looked at by itself: as many turns will do as let
the givers give all that is wanted, and the getters get it. Whichever copies are
then given to whichever boxes, all find their turns.
"""

from roundcopies.diaries import Diaries
from roundcopies.flows import Flow


def more_turns(flow):
    """How many turns more are needed at least, as only the boxes that are full could take what is left."""
    short = sum(flow.left)
    return (short + len(flow.full) - 1) // len(flow.full) if short > 0 else 0


def boxes_by_block(flow, many):
    """For each of so many blocks the boxes that bear its asks, each as often as it bears one."""
    found = [[] for _ in range(many)]
    for box, borne in enumerate(flow.borne):
        for block, times in borne.items():
            found[block].extend([box] * times)
    return found


class Job:
    """The copies that blocks of a table want, as many as they have there, and the boxes that give and get them.

    lots is a dict from blocks to the boxes that hold a copy, there a list of the
    boxes that are not lost. wants is a dict from the blocks that want copies to how
    many, so far as boxes are there; givers and getters have a lot for each of them.
    """

    def __init__(self, table, lots, there):
        self.boxes = table.boxes
        self.lots = dict(lots)
        self.there = list(there)
        lacks = {block: min(len(table.blocks[block][0]), len(there)) - len(lot) for block, lot in lots.items()}
        self.wants = {block: many for block, many in lacks.items() if many > 0}
        self.givers = [lots[block] for block in self.wants]
        self.getters = [tuple([box for box in there if box not in lots[block]]) for block in self.wants]

    def giving(self, turns):
        """The wanted copies dealt to the boxes that give them in so many turns."""
        return Flow(list(self.wants.values()), self.givers, [turns] * self.boxes)

    def getting(self, turns):
        """The wanted copies dealt to the boxes that get them in so many turns, no two of one block to one box."""
        return Flow(list(self.wants.values()), self.getters, [turns] * self.boxes, True)

    def missing(self, turns):
        """How many turns are needed at least beside so many, 0 if these are enough."""
        return max(more_turns(self.giving(turns)), more_turns(self.getting(turns)))

    def fewest_turns(self):
        """How many turns are needed."""
        turns = 0
        more = self.missing(turns)
        while more > 0:
            turns += more
            more = self.missing(turns)
        return turns

    def planned(self):
        """Turns, as few as can be, in which all that is wanted is given."""
        turns = self.fewest_turns()
        givers = boxes_by_block(self.giving(turns), len(self.wants))
        getters = boxes_by_block(self.getting(turns), len(self.wants))
        diaries = Diaries(self.boxes)
        for at, block in enumerate(self.wants):
            for giver, getter in zip(givers[at], getters[at]):
                diaries.note((block, giver, getter))
        return diaries.turns(turns)
