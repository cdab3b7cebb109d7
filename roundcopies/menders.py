"""A mender: a table whose boxes are lost, and whose copies are made again turn by turn."""

from roundcopies.errors import IsDown, IsUp, NoBox
from roundcopies.lots import is_integer_from
from roundcopies.plans import Job
from roundcopies.tables import laid_anew


class Mender:
    """A table whose boxes are lost and mended turn by turn."""

    def __init__(self, table):
        self.table = table
        self.are_there = [True] * table.boxes
        # The boxes that hold a copy; of blocks that are gone those that did when they went.
        self.lots = [lot for lot, _ in table.blocks]
        self.are_gone = [False] * len(table.blocks)
        self.to_come = []

    def check_box(self, thing):
        """Raise NoBox unless a thing is a box."""
        if not is_integer_from(0, self.table.boxes - 1, thing):
            raise NoBox()

    def job(self):
        """What is to be given and got by now."""
        there = [box for box, is_there in enumerate(self.are_there) if is_there]
        return Job(self.table, {block: lot for block, lot in enumerate(self.lots) if not self.are_gone[block]}, there)

    def lose(self, box):
        """A box is lost, with the copies that it holds; new turns are planned."""
        self.check_box(box)
        if not self.are_there[box]:
            raise IsDown()
        self.are_there[box] = False
        self.are_gone = [is_gone or lot == (box,) for is_gone, lot in zip(self.are_gone, self.lots)]
        self.lots = [
            lot if is_gone else tuple([one for one in lot if one != box])
            for is_gone, lot in zip(self.are_gone, self.lots)
        ]
        self.to_come = list(self.job().planned())

    def renew(self, box):
        """A lost box is there again, empty; new turns are planned."""
        self.check_box(box)
        if self.are_there[box]:
            raise IsUp()
        self.are_there[box] = True
        self.to_come = list(self.job().planned())

    def plan(self):
        """The turns that are still to come."""
        return tuple(self.to_come)

    def left(self):
        """How many turns are to come."""
        return len(self.to_come)

    def step(self):
        """Do the next turn: the tuple of its transfers, () if none is to come."""
        if not self.to_come:
            return ()
        transfers = self.to_come.pop(0)
        for block, _, getter in transfers:
            self.lots[block] = tuple(sorted([*self.lots[block], getter]))
        return transfers

    def now(self):
        """The table as it is now."""
        return laid_anew(self.table, self.lots)

    def lost(self):
        """The lot of the boxes that are lost."""
        return tuple([box for box, is_there in enumerate(self.are_there) if not is_there])

    def gone_blocks(self):
        """The lot of the blocks that are gone."""
        return tuple([block for block, is_gone in enumerate(self.are_gone) if is_gone])

    def wants(self):
        """The dict from the blocks that want copies to how many more."""
        return self.job().wants

    def copy(self):
        """A mender that goes on apart."""
        other = Mender(self.table)
        other.are_there = list(self.are_there)
        other.lots = list(self.lots)
        other.are_gone = list(self.are_gone)
        other.to_come = list(self.to_come)
        return other
