"""A book that tests keep of a store by themselves: versions of all copies, what is up, what was looked for."""

import itertools

from brute import least_by_boxes, rounded_up, splits


def small(blocks):
    """Whether all whole sharings of blocks can be gone through."""
    ways = 1
    for lot, weight in blocks:
        ways *= len(splits(weight, lot, ()))
    return ways <= 1500


class Book:
    """What a store is to tell, by the words of the document; deals are read off the store, and judged."""

    def __init__(self, boxes, blocks):
        self.boxes = boxes
        self.blocks = blocks
        self.versions = {(block, box): 0 for block, (lot, _) in enumerate(blocks) for box in lot}
        self.newest = [0] * len(blocks)
        self.values = [None] * len(blocks)
        self.up = set(range(boxes))
        self.pairs = None
        self.deal = {}
        self.told = None

    def fresh(self):
        """The pairs (block, box) of the fresh copies."""
        return {(block, box) for (block, box), version in self.versions.items()
                if box in self.up and version == self.newest[block]}

    def hidden(self):
        """The blocks that have no fresh copy."""
        seen = {block for block, _ in self.fresh()}
        return tuple([block for block in range(len(self.blocks)) if block not in seen])

    def stale(self):
        """The pairs (block, box) of copies on boxes that are up, but not fresh."""
        fresh = self.fresh()
        return sorted([pair for pair in self.versions if pair[1] in self.up and pair not in fresh])

    def fault(self, name, *args):
        """The name of the error that a deed must raise, and its field, or None."""
        block = args[0] if name in ("put", "look", "mend") else None
        box = args[-1] if name in ("lose", "back", "empty", "mend") else None
        if block is not None and not 0 <= block < len(self.blocks):
            return ("NoBlock", None)
        if box is not None and not 0 <= box < self.boxes:
            return ("NoBox", None)
        if name == "mend" and (block, box) not in self.versions:
            return ("NoCopy", None)
        if name in ("lose", "empty", "mend") and box not in self.up:
            return ("IsDown", None)
        if name == "back" and box in self.up:
            return ("IsUp", None)
        if name == "put" and not self.up & set(self.blocks[block][0]):
            return ("Hidden", block)
        if name in ("look", "mend") and block in self.hidden():
            return ("Hidden", block)
        if name == "look" and sum(self.wanted[block]) == 0:
            return ("Spent", block)
        return None

    def do(self, name, *args):
        """Do a deed that raises nothing; what a look is to tell."""
        if name == "put":
            self.newest[args[0]] += 1
            self.values[args[0]] = args[1]
            for box in self.up & set(self.blocks[args[0]][0]):
                self.versions[args[0], box] = self.newest[args[0]]
        elif name == "look":
            row = self.wanted[args[0]]
            at = [many > 0 for many in row].index(True)
            row[at] -= 1
            self.served[self.blocks[args[0]][0][at]] += 1
            return self.values[args[0]]
        elif name == "lose":
            self.up.discard(args[0])
        elif name == "back":
            self.up.add(args[0])
        elif name == "empty":
            for block, box in self.versions:
                if box == args[0]:
                    self.versions[block, box] = None
        elif name == "mend":
            self.versions[args] = self.newest[args[0]]
        elif name == "new_round":
            self.begin()
        return None

    def begin(self):
        """A round begins."""
        self.wanted = {block: list(row) for block, row in self.deal.items()}
        self.served = [0] * self.boxes

    def lots(self):
        """For each block that is not hidden its boxes with fresh copies."""
        found = {}
        for block, box in sorted(self.fresh()):
            found[block] = (*found.get(block, ()), box)
        return found

    def judge(self, test, told):
        """Judge what a store tells behind a deed: a dict of stale, hidden, deal, least, served, moved."""
        test.assertEqual(told["stale"], self.stale())
        test.assertEqual(told["hidden"], self.hidden())
        if self.fresh() != self.pairs:
            self.judge_deal(test, told)
            self.pairs, self.deal = self.fresh(), dict(told["deal"])
            self.begin()
            self.told = {name: told[name] for name in ("deal", "least", "moved")}
        test.assertEqual({name: told[name] for name in ("deal", "least", "moved")}, self.told)
        test.assertEqual(told["served"], tuple(self.served))
        test.assertLessEqual(max(told["served"]), told["least"])

    def judge_deal(self, test, told):
        """Judge a new deal: the least load that can be, and the fewest moves that a deal with it can have."""
        lots = self.lots()
        deal = told["deal"]
        test.assertEqual(sorted(deal), sorted(lots))
        loads = [0] * self.boxes
        for block, row in deal.items():
            lot, weight = self.blocks[block]
            test.assertEqual((type(block), type(row), len(row)), (int, tuple, len(lot)))
            test.assertTrue(all([type(many) is int and many >= 0 for many in row]))
            test.assertEqual(sum(row), weight)
            for box, many in zip(lot, row):
                test.assertTrue(many == 0 or box in lots[block])
                loads[box] += many
        least = rounded_up(least_by_boxes([(lot, self.blocks[block][1]) for block, lot in lots.items()], ()))
        test.assertEqual((told["least"], max(loads)), (least, least))
        first = self.pairs is None
        test.assertEqual(told["moved"], 0 if first else self.moves_to(deal))
        if not first and small([(lot, self.blocks[block][1]) for block, lot in lots.items()]):
            test.assertEqual(told["moved"], self.fewest_moves(lots, least))

    def moves_to(self, deal):
        """How many asks another deal deals to another box, of the blocks that were and are not hidden."""
        return sum([max(0, many - before) for block in set(deal) & set(self.deal)
                    for before, many in zip(self.deal[block], deal[block])])

    def fewest_moves(self, lots, least):
        """The fewest moves of all deals with this greatest load: all are gone through."""
        rows = []
        for block in lots:
            lot, weight = self.blocks[block]
            rows.append(splits(weight, lot, [box for box in lot if box not in lots[block]]))
        best = None
        for chosen in itertools.product(*rows):
            loads = [0] * self.boxes
            for block, row in zip(lots, chosen):
                for box, many in zip(self.blocks[block][0], row):
                    loads[box] += many
            if max(loads) <= least:
                moves = self.moves_to(dict(zip(lots, chosen)))
                best = moves if best is None else min(best, moves)
        return best
