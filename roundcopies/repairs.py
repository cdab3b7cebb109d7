"""Repairs: copies that were lost are made again, turn by turn."""

from roundcopies.deals import boxes_under, lots_left
from roundcopies.errors import NoLoss, NoMending, NoNumber
from roundcopies.lots import is_integer_above, is_integer_from, is_lot_below
from roundcopies.plans import Job
from roundcopies.tables import is_loss, laid_anew

MOST_TURNS = 1000000


def job_behind(table, loss):
    """What is to be given and got behind a loss."""
    if not is_loss(table, loss):
        raise NoLoss()
    lost = {box: True for box in loss}
    return Job(table, lots_left(table, loss), [box for box in range(table.boxes) if box not in lost])


def wanted(table, loss):
    """The dict from the blocks that want copies behind a loss to how many."""
    return job_behind(table, loss).wants


def is_transfer(job, thing):
    """Whether a thing is a block, a box that can give a copy of it, and a box that can get one."""
    if not isinstance(thing, tuple) or len(thing) != 3 or not all([is_integer_above(-1, item) for item in thing]):
        return False
    block, giver, getter = thing
    if block not in job.lots:
        return False
    return giver in job.lots[block] and getter in job.there and getter not in job.lots[block]


def is_mending_of(job, thing):
    """Whether a thing is a tuple of transfers that give all that is wanted, once each."""
    if not isinstance(thing, tuple) or not all([is_transfer(job, one) for one in thing]):
        return False
    if len(set([(block, getter) for block, _, getter in thing])) != len(thing):
        return False
    given = {}
    for block, _, _ in thing:
        given[block] = given.get(block, 0) + 1
    return given == job.wants


def is_turn(transfers):
    """Whether transfers are ascending, and no box gives two copies, or gets two."""
    givers = [giver for _, giver, _ in transfers]
    getters = [getter for _, _, getter in transfers]
    if len(set(givers)) != len(givers) or len(set(getters)) != len(getters):
        return False
    return all([one < other for one, other in zip(transfers, transfers[1:])])


def is_mending(table, loss, thing):
    """Whether a thing is a mending behind a loss."""
    return is_mending_of(job_behind(table, loss), thing)


def is_turns(table, loss, thing):
    """Whether a thing is turns that together are a mending behind a loss."""
    job = job_behind(table, loss)
    if not isinstance(thing, tuple) or not all([isinstance(turn, tuple) and len(turn) > 0 for turn in thing]):
        return False
    if not is_mending_of(job, tuple([transfer for turn in thing for transfer in turn])):
        return False
    return all([is_turn(turn) for turn in thing])


def turns(table, loss):
    """Turns behind a loss, as few as can be."""
    return job_behind(table, loss).planned()


def least_turns(table, loss):
    """How many turns are needed behind a loss."""
    return job_behind(table, loss).fewest_turns()


def check_turns(many):
    """Raise NoNumber unless a thing is a number of turns."""
    if not is_integer_from(0, MOST_TURNS, many):
        raise NoNumber()


def slow(table, loss, many):
    """A slow pair for so many turns behind a loss, or None."""
    job = job_behind(table, loss)
    check_turns(many)
    giving = job.giving(many)
    if sum(giving.left) > 0:
        blocks = list(job.wants)
        return ("give", tuple([blocks[at] for at in giving.short]))
    getting = job.getting(many)
    return ("get", getting.full) if sum(getting.left) > 0 else None


def is_slow(table, loss, many, thing):
    """Whether a thing is a slow pair for so many turns behind a loss."""
    job = job_behind(table, loss)
    check_turns(many)
    if not isinstance(thing, tuple) or len(thing) != 2:
        return False
    word, lot = thing
    if word == "give":
        return is_lot_below(len(table.blocks), lot) and is_slow_to_give(job, many, lot)
    if word == "get":
        return is_lot_below(table.boxes, lot) and is_slow_to_get(job, many, lot)
    return False


def is_slow_to_give(job, many, blocks):
    """Whether blocks together want more copies than their boxes can give in so many turns."""
    # Blocks that are gone want no copies, and no box can give any of them.
    asked = sum([job.wants.get(block, 0) for block in blocks])
    return asked > many * boxes_under(job.lots, [block for block in blocks if block in job.lots])


def is_slow_to_get(job, many, boxes):
    """Whether boxes, none of them lost, must get more copies than they can in so many turns."""
    if not all([box in job.there for box in boxes]):
        return False
    forced = 0
    for asked, getters in zip(job.wants.values(), job.getters):
        forced += max(0, asked - len([box for box in getters if box not in boxes]))
    return forced > many * len(boxes)


def mended(table, loss, mending):
    """The table behind a loss and a mending."""
    job = job_behind(table, loss)
    if not is_mending_of(job, mending):
        raise NoMending()
    lots = [list(job.lots.get(block, lot)) for block, (lot, _) in enumerate(table.blocks)]
    for block, _, getter in mending:
        lots[block].append(getter)
    return laid_anew(table, lots)


def heals(table, loss):
    """Whether each block has as many boxes behind a mending as ahead of the loss, none being gone."""
    job = job_behind(table, loss)
    if len(job.lots) < len(table.blocks):
        return False
    return max([len(lot) for lot, _ in table.blocks]) <= len(job.there)
