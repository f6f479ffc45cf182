"""Blocks: eight cubes put together so that they look like a ninth."""

from thirtycubes.errors import NoCube, NoStock
from thirtycubes.paints import all_looks, are_many_paints
from thirtycubes.thirty import MANY, check_number, is_number

# The outer sides of each place.
OUTER = ((0, 2, 4), (0, 2, 5), (0, 3, 4), (0, 3, 5), (1, 2, 4), (1, 2, 5), (1, 3, 4), (1, 3, 5))

# Two places that touch, the lesser one first, and the side of each by which
# they do so.
TOUCHES = (
    (0, 1, 5, 4),
    (0, 2, 3, 2),
    (0, 4, 1, 0),
    (1, 3, 3, 2),
    (1, 5, 1, 0),
    (2, 3, 5, 4),
    (2, 6, 1, 0),
    (3, 7, 1, 0),
    (4, 5, 5, 4),
    (4, 6, 3, 2),
    (5, 7, 3, 2),
    (6, 7, 5, 4),
)


def stock_for(number, stock):
    """Tell the numbers of a stock, refusing a wrong number, then a wrong stock."""
    check_number(number)
    if stock is None:
        return [kept for kept in range(MANY) if kept != number]
    for at, kept in enumerate(stock):
        if not is_number(kept) or kept in stock[:at]:
            raise NoStock(at)
    return stock


def number_or_none(thirty, paints):
    """Tell the number of paints, None where they haven't each of the six once."""
    try:
        return thirty.number(paints)
    except NoCube:
        return None


def cube_faults(thirty, block, numbers):
    """Tell of each place that has no cube of these numbers, or one of a place ahead."""
    told = [number_or_none(thirty, paints) for paints in block]
    return [("cube", place) for place, kept in enumerate(told) if kept not in numbers or kept in told[:place]]


def outer_faults(model, block):
    """Tell of each outer side that doesn't show what the model has there."""
    return [
        ("outer", place, side)
        for place, sides in enumerate(OUTER)
        for side in sides
        if block[place][side] != model[side]
    ]


def inner_faults(block):
    """Tell of each two places that touch and don't show the same there."""
    return [
        ("inner", place, other)
        for place, other, side, across in TOUCHES
        if block[place][side] != block[other][across]
    ]


def block_judged(thirty, number, block, stock=None):
    """Tell None of a block like a number that is right, else what is wrong first."""
    numbers = stock_for(number, stock)
    if not are_many_paints(block, 8) or len(block) != 8:
        return ("block",)
    model = thirty.cubes()[number]
    faults = cube_faults(thirty, block, numbers) + outer_faults(model, block) + inner_faults(block)
    return faults[0] if len(faults) > 0 else None


def fits(begun, number, shown):
    """Tell whether a cube, as it shows, can stand at the next place of a block that is begun."""
    if number in [kept for kept, paints in begun]:
        return False
    due = [(begun[place][1][side], across) for place, other, side, across in TOUCHES if other == len(begun)]
    return all([shown[across] == paint for paint, across in due])


def blocks(thirty, number, stock=None):
    """Tell all blocks like a number, in the order of lists."""
    numbers = stock_for(number, stock)
    cubes = thirty.cubes()
    model = cubes[number]
    ways = [(kept, shown) for kept in numbers for shown in all_looks(cubes[kept])]
    begun = [[]]
    for sides in OUTER:
        fitting = [(kept, shown) for kept, shown in ways if all([shown[side] == model[side] for side in sides])]
        begun = [block + [(kept, shown)] for block in begun for kept, shown in fitting if fits(block, kept, shown)]
    return sorted([[shown for kept, shown in block] for block in begun])


def eight_of(thirty, number):
    """Tell, rising, the numbers of the row and the column of the number's twin, without the twin."""
    twin = thirty.twin(number)
    row, place = thirty.place(twin)
    table = thirty.table()
    around = table[row] + [line[place] for line in table]
    return sorted([kept for kept in around if kept is not None and kept != twin])
