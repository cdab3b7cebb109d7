"""What the tests reckon of mendings and turns apart from the program, by the words of the document.

A job is what is to be done: the boxes that are there, a dict from blocks that are
not gone to the sets of boxes that hold a copy, and how many copies each wants.
"""

import itertools

from brute import all_lots, left


class Job:
    """What is to be given and got."""

    def __init__(self, there, held, wants):
        self.there = set(there)
        self.held = {block: set(lot) for block, lot in held.items()}
        self.wants = {block: many for block, many in wants.items() if many}
        self.getters = {block: self.there - lot for block, lot in self.held.items()}


def behind(boxes, blocks, loss):
    """The job behind a loss: as many copies as boxes are lost, but no more than there are boxes for."""
    there = set(range(boxes)) - set(loss)
    wants = {}
    for block in left(blocks, loss):
        lot = set(blocks[block][0])
        wants[block] = min(len(lot & set(loss)), len(there - lot))
    return Job(there, left(blocks, loss), wants)


def is_number(thing):
    return type(thing) is int and thing >= 0


def is_right_transfer(job, thing):
    """Whether a thing is a transfer."""
    if type(thing) is not tuple or len(thing) != 3 or not all([is_number(one) for one in thing]):
        return False
    block, giver, getter = thing
    return block in job.held and giver in job.held[block] and getter in job.getters[block]


def is_right_mending(job, thing):
    """Whether a thing is a mending."""
    if type(thing) is not tuple or not all([is_right_transfer(job, one) for one in thing]):
        return False
    for block in job.held:
        getters = [getter for one, _, getter in thing if one == block]
        if len(getters) != job.wants.get(block, 0) or len(set(getters)) != len(getters):
            return False
    return True


def are_right_turns(job, thing):
    """Whether a thing is turns."""
    if type(thing) is not tuple or not all([type(turn) is tuple and turn for turn in thing]):
        return False
    if not is_right_mending(job, tuple(itertools.chain(*thing))):
        return False
    for turn in thing:
        if list(turn) != sorted(set(turn)):
            return False
        if len({giver for _, giver, _ in turn}) < len(turn) or len({getter for _, _, getter in turn}) < len(turn):
            return False
    return True


def is_right_slow(job, blocks, many, thing):
    """Whether a thing is a slow pair."""
    if type(thing) is not tuple or len(thing) != 2 or type(thing[0]) is not str or type(thing[1]) is not tuple:
        return False
    word, lot = thing
    if not all([is_number(one) for one in lot]) or list(lot) != sorted(set(lot)):
        return False
    if word == "give" and all([block < len(blocks) for block in lot]):
        givers = set().union(*[job.held.get(block, set()) for block in lot])
        return sum([job.wants.get(block, 0) for block in lot]) > many * len(givers)
    if word == "get" and set(lot) <= job.there:
        return must_get(job, set(lot)) > many * len(lot)
    return False


def must_get(job, boxes):
    """How many copies all blocks together must put on boxes, as they have too few boxes beside."""
    return sum([max(0, many - len(job.getters[block] - boxes)) for block, many in job.wants.items()])


def least_by_slow_pairs(job):
    """The fewest turns for which there is no slow pair: all lots of wanting blocks and of boxes are gone through."""
    least = 0
    for size in range(1, len(job.wants) + 1):
        for lot in itertools.combinations(sorted(job.wants), size):
            givers = set().union(*[job.held[block] for block in lot])
            least = max(least, -(-sum([job.wants[block] for block in lot]) // len(givers)))
    boxes = sorted(job.there)
    for lot in all_lots(len(boxes)):
        if lot:
            least = max(least, -(-must_get(job, {boxes[at] for at in lot}) // len(lot)))
    return least


def ways_of(job):
    """For each wanting block all its givers, however often, with all its getters; how many there are in all."""
    rows = []
    many = 1
    for block, times in job.wants.items():
        rows.append([(givers, getters)
                     for givers in itertools.combinations_with_replacement(sorted(job.held[block]), times)
                     for getters in itertools.combinations(sorted(job.getters[block]), times)])
        many *= len(rows[-1])
    return rows, many


def least_by_mendings(rows):
    """The least number of copies that a box gives or gets at most, of all mendings: fewer turns will not do."""
    best = None
    for chosen in itertools.product(*rows):
        given, got = {}, {}
        for givers, getters in chosen:
            for giver, getter in zip(givers, getters):
                given[giver] = given.get(giver, 0) + 1
                got[getter] = got.get(getter, 0) + 1
        most = max([0, *given.values(), *got.values()])
        best = most if best is None else min(best, most)
    return best


def mending_by_chance(chance, job):
    """A mending, by chance, in any order."""
    found = []
    for block, many in job.wants.items():
        for getter in chance.sample(sorted(job.getters[block]), many):
            found.append((block, chance.choice(sorted(job.held[block])), getter))
    chance.shuffle(found)
    return tuple(found)


def turns_by_chance(chance, mending):
    """The transfers of a mending, put into the first of some turns in which they may be."""
    turns = [[] for _ in range(chance.randint(0, 2))]
    for transfer in chance.sample(mending, len(mending)):
        free = [turn for turn in turns if all([one[1] != transfer[1] and one[2] != transfer[2] for one in turn])]
        if free and chance.random() < 0.9:
            free[0].append(transfer)
        else:
            turns.append([transfer])
    return tuple([tuple(sorted(turn)) for turn in turns if turn])
