"""What the tests share: slow ways of their own, and wrong things.

Nothing here asks the program, so that what it tells is held against
something else.
"""

import copy
from contextlib import contextmanager
from itertools import permutations, product
from time import perf_counter

# The side's own direction, as (left to right, ahead to behind, beneath to above).
DIRECTIONS = (
    (0, 0, 1),
    (0, 0, -1),
    (0, -1, 0),
    (0, 1, 0),
    (-1, 0, 0),
    (1, 0, 0),
)

GREAT = 10 ** 30 - 1


def determinant(rows):
    (a, b, c), (d, e, f), (g, h, i) = rows
    return a * (e * i - f * h) - b * (d * i - f * g) + c * (d * h - e * g)


def led(rows, direction):
    return tuple(sum(a * b for a, b in zip(row, direction)) for row in rows)


def slow_turns():
    """All rotations of space that lead the cube to itself, as turns."""
    found = []
    for places in permutations(range(3)):
        for signs in product((1, -1), repeat=3):
            rows = [[0, 0, 0] for place in range(3)]
            for row, place, sign in zip(rows, places, signs):
                row[place] = sign
            if determinant(rows) == 1:
                found.append(tuple(DIRECTIONS.index(led(rows, direction)) for direction in DIRECTIONS))
    return sorted(found)


TURNS = slow_turns()


QUARTERS = {"u": (0, 1, 4, 5, 3, 2), "f": (5, 4, 2, 3, 0, 1), "r": (2, 3, 1, 0, 4, 5)}


def slow_turn(word):
    """Follow each side on its own through the quarters of a word."""
    ends = []
    for side in range(6):
        for letter in word:
            side = QUARTERS[letter][side]
        ends.append(side)
    return tuple(ends)


def short_words():
    """Words long enough for every turn, the shorter ones first, of like lengths the least."""
    return ["".join(letters) for length in range(5) for letters in product("fru", repeat=length)]


def slow_turned(paints, turn):
    """By a dict from each side to the paint that comes to it."""
    at = {turn[side]: paints[side] for side in range(6)}
    return tuple(at[side] for side in range(6))


def slow_looks(paints):
    return [slow_turned(paints, turn) for turn in TURNS]


def slow_mirrored(paints):
    return paints[:4] + (paints[5], paints[4])


def cross_of(sides):
    """Whether three sides meet at a corner: 1 or -1, by how they go round it, else 0."""
    return determinant([DIRECTIONS[side] for side in sides])


# Three sides of each corner, from each of them on, that go round as 0, 2 and 4 do.
MEETING = [sides for sides in permutations(range(6), 3) if cross_of(sides) == cross_of((0, 2, 4))]


def slow_corners(paints):
    """Each corner once, by the directions of its sides, from its least place on."""
    rounds = {tuple(sorted(sides)): sides for sides in MEETING}
    found = []
    for sides in rounds.values():
        seen = [paints[side] for side in sides]
        found.append(min(tuple(seen[place:] + seen[:place]) for place in range(3)))
    return sorted(found)


def slow_thirty(six):
    """The least looks of all orders of the six."""
    return sorted({min(slow_looks(paints)) for paints in permutations(six)})


def nested(depth):
    """Lists and tuples, so many within one another."""
    thing = 0
    for level in range(depth):
        thing = [thing] if level % 2 else (thing,)
    return thing


def anything():
    """Things of every kind that are neither a turn nor paints."""
    return [
        None, True, False, 0, 1, -1, GREAT, -GREAT,
        "", "u", "012345", "(0, 1, 2, 3, 4, 5)", "none at all",
        (), [], [()], ([],), (None,), (0,), (0, 1),
        (0, 1, 2, 3, 4), (0, 1, 2, 3, 4, 5, 6), (0, 0, 0, 0, 0), (0, 0, 0, 0, 0, 0, 0),
        [0, 1, 2, 3, 4, 5], [0, 1, 4, 5, 3, 2], [0, 0, 0, 0, 0, 0],
        ["0", "1", "2", "3", "4", "5"], ("0", "1", "2", "3", "4", "5"),
        ("012345",), ((0, 1, 2, 3, 4, 5),), [(0, 1, 2, 3, 4, 5)],
        ((0, 1, 2, 3, 4, 5),) * 6, [[0, 1, 2, 3, 4, 5]] * 6, ((),) * 6, ([],) * 6,
        (None,) * 6, (True,) * 6, (False,) * 6, ("",) * 6,
        nested(16), (nested(15),) * 6,
    ]


def with_wrong_parts(right, wrong_parts):
    """The right tuple with each wrong part in each place, one at a time."""
    return [right[:place] + (part,) + right[place + 1:] for place in range(6) for part in wrong_parts]


def parts_of_other_kinds():
    return [True, False, None, "", "0", "a", [], [0], (), (0,), nested(15)]


def no_turns():
    """Things that are no turns, of every kind that the document names."""
    right = (0, 1, 4, 5, 3, 2)
    exchanged = []
    for one, other in ((0, 1), (2, 3), (4, 5), (0, 2), (1, 5)):
        sides = list(right)
        sides[one], sides[other] = sides[other], sides[one]
        exchanged.append(tuple(sides))
    truths = [
        (False, 1, 2, 3, 4, 5), (0, True, 2, 3, 4, 5), (False, True, 2, 3, 4, 5), (True, False, 2, 3, 5, 4),
        (2, 3, True, False, 4, 5),
    ]
    twice = [(0, 1, 2, 3, 4, 4), (0, 0, 2, 3, 4, 5), (1, 1, 1, 1, 1, 1), (0, 1, 4, 5, 3, 3)]
    numbers = [-1, -2, 6, 7, GREAT, -GREAT]
    return (
        anything() + exchanged + truths + twice
        + with_wrong_parts(right, numbers + parts_of_other_kinds())
    )


def no_paints():
    """Things that are no paints, of every kind that the document names."""
    right = (0, 1, 1, GREAT, 3, 0)
    return anything() + with_wrong_parts(right, [-1, -2, -GREAT] + parts_of_other_kinds())


def some_paints():
    """Paints with each kind of likeness, and of great numbers."""
    few = list(product((0, 1), repeat=6)) + list(product((0, 3, 7), repeat=6))[::13]
    own = [
        (0, 1, 2, 3, 4, 5), (5, 4, 3, 2, 1, 0), (1, 0, 2, 3, 4, 5), (2, 2, 1, 1, 0, 0), (0, 1, 0, 1, 0, 1),
        (0, 0, 0, 0, 1, 2), (9, 9, 10, 10, 100, 100), (10, 9, 8, 7, 6, 5), (4, 4, 4, 4, 4, 4),
        (GREAT,) * 6, (GREAT, 0, GREAT - 1, 1, GREAT - 2, 2), (7, GREAT, 7, GREAT, 7, GREAT),
    ]
    return few + own


def lists_in(thing):
    """Every list in a thing, as often as it stands there, the thing itself too."""
    found = [thing] if isinstance(thing, list) else []
    if isinstance(thing, (list, tuple)):
        for part in thing:
            found += lists_in(part)
    return found


def spoil(thing):
    """Change every list in a thing."""
    for part in lists_in(thing):
        part.reverse()
        part.append("more")


def check_own(case, asked):
    """What is asked tells the same again, in new lists at one place each, whatever was done to the first."""
    first = asked()
    kept = copy.deepcopy(first)
    second = asked()
    case.assertEqual(second, kept)
    places = lists_in(first) + lists_in(second)
    case.assertEqual(len({id(part) for part in places}), len(places))
    spoil(first)
    case.assertEqual(second, kept)
    case.assertEqual(asked(), kept)


def check_left(case, asked, *things):
    """What is handed in stays as it is, of the same kinds all the way down."""
    before = repr(things)
    try:
        asked(*things)
    except ValueError:
        pass
    case.assertEqual(repr(things), before)


@contextmanager
def soon(case, seconds=10):
    """Far more than is wanted, and far less than a slow way would take."""
    begun = perf_counter()
    yield
    case.assertLess(perf_counter() - begun, seconds)


def chances(seed):
    """Numbers that look like chance and are the same each time: draw(many) is less than many."""
    state = [seed]

    def draw(many):
        state[0] = (state[0] * 6364136223846793005 + 1442695040888963407) % 2 ** 64
        return (state[0] >> 33) % many

    return draw


def drawn_cubes(draw, many, palette):
    return [tuple(draw(palette) for side in range(6)) for number in range(many)]


def no_cubes(most):
    """Things that are no list of one to so many paints."""
    right = (0, 0, 0, 0, 0, 0)
    lists = [[], [right] * (most + 1), [right] * (most + 2), (right,), (right, right), right, list(right), [list(right)]]
    inner = [[thing] for thing in no_paints()]
    inner += [[right, thing] for thing in no_paints()] + [[thing, right] for thing in no_paints()]
    # One of those things are the paints of one cube, in a list.
    return [thing for thing in anything() if thing != [(0, 1, 2, 3, 4, 5)]] + lists + inner
