"""What the tests share: slow ways of their own, and wrong things.

Nothing here asks the program, so that what it tells is held against
something else.
"""

from itertools import permutations, product

# The side's own direction, as (left to right, ahead to behind, beneath to above).
DIRECTIONS = (
    (0, 0, 1),
    (0, 0, -1),
    (0, -1, 0),
    (0, 1, 0),
    (-1, 0, 0),
    (1, 0, 0),
)

GREAT = 10 ** 30 - 1


def determinant(rows):
    (a, b, c), (d, e, f), (g, h, i) = rows
    return a * (e * i - f * h) - b * (d * i - f * g) + c * (d * h - e * g)


def led(rows, direction):
    return tuple(sum(a * b for a, b in zip(row, direction)) for row in rows)


def slow_turns():
    """All rotations of space that lead the cube to itself, as turns."""
    found = []
    for places in permutations(range(3)):
        for signs in product((1, -1), repeat=3):
            rows = [[0, 0, 0] for place in range(3)]
            for row, place, sign in zip(rows, places, signs):
                row[place] = sign
            if determinant(rows) == 1:
                found.append(tuple(DIRECTIONS.index(led(rows, direction)) for direction in DIRECTIONS))
    return sorted(found)


TURNS = slow_turns()


def slow_turned(paints, turn):
    """By a dict from each side to the paint that comes to it."""
    at = {turn[side]: paints[side] for side in range(6)}
    return tuple(at[side] for side in range(6))


def slow_looks(paints):
    return [slow_turned(paints, turn) for turn in TURNS]


def nested(depth):
    """Lists and tuples, so many within one another."""
    thing = 0
    for level in range(depth):
        thing = [thing] if level % 2 else (thing,)
    return thing


def anything():
    """Things of every kind that are neither a turn nor paints."""
    return [
        None, True, False, 0, 1, -1, GREAT, -GREAT,
        "", "u", "012345", "(0, 1, 2, 3, 4, 5)", "none at all",
        (), [], [()], ([],), (None,), (0,), (0, 1),
        (0, 1, 2, 3, 4), (0, 1, 2, 3, 4, 5, 6), (0, 0, 0, 0, 0), (0, 0, 0, 0, 0, 0, 0),
        [0, 1, 2, 3, 4, 5], [0, 1, 4, 5, 3, 2], [0, 0, 0, 0, 0, 0],
        ["0", "1", "2", "3", "4", "5"], ("0", "1", "2", "3", "4", "5"),
        ("012345",), ((0, 1, 2, 3, 4, 5),), [(0, 1, 2, 3, 4, 5)],
        ((0, 1, 2, 3, 4, 5),) * 6, [[0, 1, 2, 3, 4, 5]] * 6, ((),) * 6, ([],) * 6,
        (None,) * 6, (True,) * 6, (False,) * 6, ("",) * 6,
        nested(16), (nested(15),) * 6,
    ]


def with_wrong_parts(right, wrong_parts):
    """The right tuple with each wrong part in each place, one at a time."""
    return [right[:place] + (part,) + right[place + 1:] for place in range(6) for part in wrong_parts]


def parts_of_other_kinds():
    return [True, False, None, "", "0", "a", [], [0], (), (0,), nested(15)]


def no_turns():
    """Things that are no turns, of every kind that the document names."""
    right = (0, 1, 4, 5, 3, 2)
    exchanged = []
    for one, other in ((0, 1), (2, 3), (4, 5), (0, 2), (1, 5)):
        sides = list(right)
        sides[one], sides[other] = sides[other], sides[one]
        exchanged.append(tuple(sides))
    truths = [
        (False, 1, 2, 3, 4, 5), (0, True, 2, 3, 4, 5), (False, True, 2, 3, 4, 5), (True, False, 2, 3, 5, 4),
        (2, 3, True, False, 4, 5),
    ]
    twice = [(0, 1, 2, 3, 4, 4), (0, 0, 2, 3, 4, 5), (1, 1, 1, 1, 1, 1), (0, 1, 4, 5, 3, 3)]
    numbers = [-1, -2, 6, 7, GREAT, -GREAT]
    return (
        anything() + exchanged + truths + twice
        + with_wrong_parts(right, numbers + parts_of_other_kinds())
    )


def no_paints():
    """Things that are no paints, of every kind that the document names."""
    right = (0, 1, 1, GREAT, 3, 0)
    return anything() + with_wrong_parts(right, [-1, -2, -GREAT] + parts_of_other_kinds())


def some_paints():
    """Paints with each kind of likeness, and of great numbers."""
    few = list(product((0, 1), repeat=6)) + list(product((0, 3, 7), repeat=6))[::13]
    own = [
        (0, 1, 2, 3, 4, 5), (5, 4, 3, 2, 1, 0), (1, 0, 2, 3, 4, 5), (2, 2, 1, 1, 0, 0), (0, 1, 0, 1, 0, 1),
        (0, 0, 0, 0, 1, 2), (9, 9, 10, 10, 100, 100), (10, 9, 8, 7, 6, 5), (4, 4, 4, 4, 4, 4),
        (GREAT,) * 6, (GREAT, 0, GREAT - 1, 1, GREAT - 2, 2), (7, GREAT, 7, GREAT, 7, GREAT),
    ]
    return few + own
