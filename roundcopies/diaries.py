"""Transfers told to turns, so that in no turn a box gives two copies, or gets two.

As many turns will do as a box gives, or gets, at most: where a transfer finds no
turn that is free at both its boxes, others are exchanged between two turns.
"""


class Diary:
    """What one box gives, or gets: a transfer for some of the turns."""

    def __init__(self):
        self.taken = {}
        # All turns below are taken.
        self.first = 0

    def free_turn(self):
        """The first turn that is not taken."""
        while self.first in self.taken:
            self.first += 1
        return self.first

    def exchange(self, one, other):
        """Exchange what is done in two turns."""
        here = self.taken.pop(one, None)
        there = self.taken.pop(other, None)
        if here is not None:
            self.taken[other] = here
        if there is not None:
            self.taken[one] = there
        if here is None or there is None:
            self.first = min(self.first, one, other)


class Diaries:
    """What all boxes give, and what they get."""

    def __init__(self, boxes):
        self.givers = [Diary() for _ in range(boxes)]
        self.getters = [Diary() for _ in range(boxes)]

    def note(self, transfer):
        """Find a turn for a transfer."""
        _, giver, getter = transfer
        turn = self.givers[giver].free_turn()
        other = self.getters[getter].free_turn()
        if other not in self.givers[giver].taken:
            turn = other
        elif turn in self.getters[getter].taken:
            # The chain never comes to the giver, which gives nothing in this turn.
            for diary in self.chain(getter, turn, other):
                diary.exchange(turn, other)
        self.givers[giver].taken[turn] = transfer
        self.getters[getter].taken[turn] = transfer

    def chain(self, getter, turn, other):
        """The diaries that must exchange two turns if the one of a getter does, each with the next one."""
        diary = self.getters[getter]
        found = [diary]
        is_getter = True
        while turn in diary.taken:
            _, giver, getter = diary.taken[turn]
            diary = self.givers[giver] if is_getter else self.getters[getter]
            found.append(diary)
            is_getter = not is_getter
            turn, other = other, turn
        return found

    def turns(self, many):
        """The transfers of each of so many turns, ascending."""
        found = [[] for _ in range(many)]
        for diary in self.givers:
            for turn, transfer in diary.taken.items():
                found[turn].append(transfer)
        return tuple([tuple(sorted(transfers)) for transfers in found])
