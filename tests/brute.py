"""What the tests reckon apart from the program, going through all there is."""

import functools
import itertools
from fractions import Fraction


@functools.cache
def adder(moduli):
    """The sums of all places, by rests."""
    known = list(itertools.product(*[range(modulus) for modulus in moduli]))
    number = {digits: place for place, digits in enumerate(known)}
    return [[number[tuple([(a + b) % m for a, b, m in zip(one, other, moduli)])] for other in known] for one in known]


def all_lots(many):
    """All lots of numbers below many, fewest first."""
    return [lot for size in range(many + 1) for lot in itertools.combinations(range(many), size)]


def laid(moduli, kinds):
    """The blocks of a layout, by the words of the document."""
    sums = adder(moduli)
    return tuple([
        (tuple(sorted([sums[place][step] for step in steps])), weight)
        for steps, weight in kinds for place in range(len(sums))
    ])


def left(blocks, loss):
    """A dict from the blocks that are not gone to the sets of their boxes that are not lost."""
    lots = {number: set(lot) - set(loss) for number, (lot, _) in enumerate(blocks)}
    return {number: lot for number, lot in lots.items() if lot}


def density(blocks, loss, numbers):
    """The weights of some blocks divided by the boxes, not lost, on which some of them lie."""
    lots = left(blocks, loss)
    boxes = set().union(*[lots[number] for number in numbers])
    return Fraction(sum([blocks[number][1] for number in numbers]), len(boxes))


def least_by_lots(blocks, loss):
    """The least load: the greatest density of all lots of blocks that are not gone."""
    numbers = list(left(blocks, loss))
    lots = [lot for size in range(1, len(numbers) + 1) for lot in itertools.combinations(numbers, size)]
    return max([density(blocks, loss, lot) for lot in lots], default=Fraction(0))


def least_by_boxes(blocks, loss):
    """The least load: all sets of boxes are gone through, with all blocks that have no other box left."""
    lots = left(blocks, loss)
    boxes = sorted(set().union(*lots.values()))
    best = Fraction(0)
    for size in range(1, len(boxes) + 1):
        for chosen in itertools.combinations(boxes, size):
            held = set(chosen)
            weight = sum([blocks[number][1] for number, lot in lots.items() if lot <= held])
            best = max(best, Fraction(weight, size))
    return best


def mask_of(lot):
    """A bit for each number of a lot."""
    return sum([1 << number for number in lot])


def calm_by_losses(boxes, blocks, f):
    """The greatest least load behind all losses of f boxes, behind which no block is gone."""
    lots = [(mask_of(lot), weight) for lot, weight in blocks]
    inside = [sum([weight for lot, weight in lots if lot & held == lot]) for held in range(1 << boxes)]
    found = [(held, weight, held.bit_count() - f) for held, weight in enumerate(inside) if weight]
    top, bottom = 0, 1
    for loss in map(mask_of, itertools.combinations(range(boxes), f)):
        for held, weight, size in found:
            if held & loss == loss and weight * bottom > top * size:
                top, bottom = weight, size
    return Fraction(top, bottom)


def rounded_up(fraction):
    """The least integer that is not less than a fraction."""
    return -(-fraction.numerator // fraction.denominator)


def is_right_sharing(boxes, blocks, loss, thing):
    """Whether a thing is a sharing, by the words of the document."""
    if type(thing) is not tuple or len(thing) != 2 or type(thing[0]) is not int or type(thing[1]) is not dict:
        return False
    parts, rows = thing
    if parts < 1 or set(rows) != set(left(blocks, loss)) or any([type(key) is not int for key in rows]):
        return False
    for number, row in rows.items():
        lot, weight = blocks[number]
        if type(row) is not tuple or len(row) != len(lot) or any([type(many) is not int or many < 0 for many in row]):
            return False
        if any([many for box, many in zip(lot, row) if box in loss]) or sum(row) != weight * parts:
            return False
    return True


def loads(boxes, blocks, rows):
    """How many parts each box bears."""
    found = [0] * boxes
    for number, row in rows.items():
        for box, many in zip(blocks[number][0], row):
            found[box] += many
    return found


def load(boxes, blocks, thing):
    """The greatest load of a box."""
    return Fraction(max(loads(boxes, blocks, thing[1])), thing[0])


def splits(weight, lot, loss):
    """All rows of one block: its asks dealt whole to its boxes that are not lost."""
    options = [range(1) if box in loss else range(weight + 1) for box in lot]
    return [row for row in itertools.product(*options) if sum(row) == weight]


def whole_sharings(blocks, loss):
    """All whole sharings of a small table."""
    numbers = list(left(blocks, loss))
    rows = [splits(blocks[number][1], blocks[number][0], loss) for number in numbers]
    return [(1, dict(zip(numbers, chosen))) for chosen in itertools.product(*rows)]


def random_blocks(chance, boxes, many, most_boxes, most_weight):
    """Blocks of a table, by chance."""
    found = []
    for _ in range(many):
        size = chance.randint(1, min(most_boxes, boxes))
        found.append((tuple(sorted(chance.sample(range(boxes), size))), chance.randint(1, most_weight)))
    return tuple(found)


def random_kinds(chance, places, many, most_weight, fewest=1, most=8):
    """Kinds of a layout, by chance."""
    found = []
    for _ in range(many):
        size = chance.randint(min(fewest, places), min(most, places))
        found.append((tuple(sorted(chance.sample(range(places), size))), chance.randint(1, most_weight)))
    return tuple(found)
