"""Turns of a cube: at place k stands the side to which side k comes."""

from thirtycubes.errors import NoTurn, NoWord
from thirtycubes.whole import are_six_whole

STILL = (0, 1, 2, 3, 4, 5)

AHEAD = 2
LEFT = 4
RIGHT = 5

# The opposite sides.
AXES = ((0, 1), (2, 3), (4, 5))

QUARTERS = {
    "u": (0, 1, 4, 5, 3, 2),
    "f": (5, 4, 2, 3, 0, 1),
    "r": (2, 3, 1, 0, 4, 5),
}

MOST_LETTERS = 1000

# Every turn with its shortest word, in the order of tuples. Written out, so
# that no asking has to put the quarters together anew; the tests do it.
WORDS = {
    (0, 1, 2, 3, 4, 5): "",
    (0, 1, 3, 2, 5, 4): "uu",
    (0, 1, 4, 5, 3, 2): "u",
    (0, 1, 5, 4, 2, 3): "uuu",
    (1, 0, 2, 3, 5, 4): "ff",
    (1, 0, 3, 2, 4, 5): "rr",
    (1, 0, 4, 5, 2, 3): "ffu",
    (1, 0, 5, 4, 3, 2): "rru",
    (2, 3, 0, 1, 5, 4): "fuf",
    (2, 3, 1, 0, 4, 5): "r",
    (2, 3, 4, 5, 0, 1): "fu",
    (2, 3, 5, 4, 1, 0): "frru",
    (3, 2, 0, 1, 4, 5): "rrr",
    (3, 2, 1, 0, 5, 4): "ffr",
    (3, 2, 4, 5, 1, 0): "fffu",
    (3, 2, 5, 4, 0, 1): "fuuu",
    (4, 5, 0, 1, 2, 3): "ffuf",
    (4, 5, 1, 0, 3, 2): "ru",
    (4, 5, 2, 3, 1, 0): "fff",
    (4, 5, 3, 2, 0, 1): "fuu",
    (5, 4, 0, 1, 3, 2): "uf",
    (5, 4, 1, 0, 2, 3): "fr",
    (5, 4, 2, 3, 0, 1): "f",
    (5, 4, 3, 2, 1, 0): "frr",
}


def is_turn(thing):
    """Tell of anything whether it is a turn."""
    # The numbers are looked at first: a list can't be looked up, and a truth
    # would be found as 0 or 1.
    return are_six_whole(thing) and thing in WORDS


def check_turn(turn):
    """Refuse what is no turn."""
    if not is_turn(turn):
        raise NoTurn("not a turn")


def turns():
    """Tell all turns, in the order of tuples."""
    return list(WORDS)


def joined(one, other):
    """Put two right turns together, the first one done first."""
    return tuple([other[side] for side in one])


def put_together(one, other):
    """Tell the turn that does one and then the other."""
    check_turn(one)
    check_turn(other)
    return joined(one, other)


def turned_back(turn):
    """Tell the turn that takes a turn back."""
    check_turn(turn)
    return tuple([turn.index(side) for side in STILL])


def times_of(turn):
    """Tell how often, from 1 on, a turn is done till all is as it was."""
    check_turn(turn)
    times = 1
    reached = turn
    while reached != STILL:
        reached = joined(reached, turn)
        times += 1
    return times


def turn_of(word):
    """Tell the turn of a word's quarters, one after the other."""
    if len(word) > MOST_LETTERS:
        raise NoWord("more than a thousand letters")
    reached = STILL
    for letter in word:
        if letter not in QUARTERS:
            raise NoWord("a sign that is none of u, f and r")
        reached = joined(reached, QUARTERS[letter])
    return reached


def word_of(turn):
    """Tell a turn's shortest word, of like lengths the least as text."""
    check_turn(turn)
    return WORDS[turn]
