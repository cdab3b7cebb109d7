"""A store of copies: values of blocks on boxes that go down and come up again."""

from roundcopies.errors import Hidden, IsDown, IsUp, NoBlock, NoBox, NoCopy, Spent
from roundcopies.lots import is_integer_from
from roundcopies.moves import check_asks, moves_between, rows_anew
from roundcopies.sharings import loads_of


class Store:
    """The values of a table's blocks, in copies that are fresh or not, and the deal by which they are asked."""

    def __init__(self, table):
        check_asks(table)
        self.table = table
        self.last_put = [None] * len(table.blocks)
        self.ups = [True] * table.boxes
        # For each block, by its boxes: older versions never become the newest, so that a flag will do.
        self.newest = [{box: True for box in lot} for lot, _ in table.blocks]
        # All copies are fresh at first, which is other than none: so there is a new deal.
        self.fresh = {}
        self.rows = {}
        self.moves = 0
        self.still_wanted = {}
        self.looks = []
        self.deal_if_changed()

    def deal_if_changed(self):
        """Begin a round with a new deal if the fresh copies have become other ones."""
        lots = [tuple([box for box in row if row[box] and self.ups[box]]) for row in self.newest]
        fresh = {block: lot for block, lot in enumerate(lots) if lot}
        if fresh != self.fresh:
            ahead = self.rows
            self.fresh = fresh
            self.rows = rows_anew(self.table, fresh, ahead)
            self.moves = moves_between(ahead, self.rows)
            self.new_round()

    def new_round(self):
        """A round begins with the same deal."""
        self.still_wanted = {block: list(row) for block, row in self.rows.items()}
        self.looks = [0] * self.table.boxes

    def check_block(self, thing):
        """Raise NoBlock unless a thing is a block."""
        if not is_integer_from(0, len(self.table.blocks) - 1, thing):
            raise NoBlock()

    def check_box(self, thing):
        """Raise NoBox unless a thing is a box."""
        if not is_integer_from(0, self.table.boxes - 1, thing):
            raise NoBox()

    def put(self, block, value):
        """Put a new version of a block on all its boxes that are up."""
        self.check_block(block)
        reached = {box: self.ups[box] for box in self.newest[block]}
        if not any(list(reached.values())):
            raise Hidden(block)
        self.newest[block] = reached
        self.last_put[block] = value
        self.deal_if_changed()

    def look(self, block):
        """The value of the newest version of a block, asked of the least box that the deal still tells."""
        self.check_block(block)
        if block not in self.fresh:
            raise Hidden(block)
        wanted = self.still_wanted[block]
        places = [at for at, many in enumerate(wanted) if many > 0]
        if not places:
            raise Spent(block)
        wanted[places[0]] -= 1
        self.looks[self.table.blocks[block][0][places[0]]] += 1
        return self.last_put[block]

    def lose(self, box):
        """A box goes down, its copies stay as they are."""
        self.check_box(box)
        if not self.ups[box]:
            raise IsDown()
        self.ups[box] = False
        self.deal_if_changed()

    def back(self, box):
        """A box comes up with its copies as they were."""
        self.check_box(box)
        if self.ups[box]:
            raise IsUp()
        self.ups[box] = True
        self.deal_if_changed()

    def empty(self, box):
        """A box that is up has lost all its copies."""
        self.check_box(box)
        if not self.ups[box]:
            raise IsDown()
        self.newest = [{one: row[one] and one != box for one in row} for row in self.newest]
        self.deal_if_changed()

    def mend(self, block, box):
        """Make the copy of a block on a box anew from a fresh one."""
        self.check_block(block)
        self.check_box(box)
        if box not in self.newest[block]:
            raise NoCopy()
        if not self.ups[box]:
            raise IsDown()
        if block not in self.fresh:
            raise Hidden(block)
        self.newest[block][box] = True
        self.deal_if_changed()

    def is_up(self, thing):
        """Whether a thing is a box that is up."""
        return is_integer_from(0, self.table.boxes - 1, thing) and self.ups[thing]

    def stale(self):
        """The ascending list of the pairs (block, box) of copies on boxes that are up, but not fresh."""
        return [
            (block, box) for block, row in enumerate(self.newest) for box in row if self.ups[box] and not row[box]
        ]

    def hidden(self):
        """The lot of the blocks that have no fresh copy."""
        return tuple([block for block in range(len(self.newest)) if block not in self.fresh])

    def deal(self):
        """The dict from the blocks that are not hidden to how many asks are dealt to each of their boxes."""
        return dict(self.rows)

    def least(self):
        """The greatest load of the deal."""
        return max(loads_of(self.table, self.rows))

    def served(self):
        """How many looks each box served in this round."""
        return tuple(self.looks)

    def last_moved(self):
        """How many asks the last new deal dealt to another box."""
        return self.moves

    def copy(self):
        """A store that is alike and goes on apart."""
        other = Store(self.table)
        other.last_put = list(self.last_put)
        other.ups = list(self.ups)
        other.newest = [dict(row) for row in self.newest]
        other.fresh = dict(self.fresh)
        other.rows = dict(self.rows)
        other.moves = self.moves
        other.still_wanted = {block: list(row) for block, row in self.still_wanted.items()}
        other.looks = list(self.looks)
        return other
