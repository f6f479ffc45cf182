"""Alike by turning, or what bars it: papers for two paints, and their judge."""

from thirtycubes.paints import check_paints, look
from thirtycubes.turns import AXES, is_turn, turns
from thirtycubes.whole import is_from_nought

# Each word with which a paper begins, and of how many things it is then.
PAPERS = {"turn": 2, "pair": 3, "twin": 1}


def placed_pairs(paints):
    """Tell the pairs of right paints, rising, and behind each its first paint's side."""
    placed = []
    for side, across in AXES:
        ways = [(paints[side], paints[across], side), (paints[across], paints[side], across)]
        placed.append(min(ways))
    return sorted(placed)


def pairs_of(paints):
    """Tell the three pairs that stand opposite, rising."""
    check_paints(paints)
    return [(lesser, greater) for lesser, greater, side in placed_pairs(paints)]


def hand_of(paints):
    """Tell the hand, 1 or 0, or None where it isn't looked at."""
    pairs = pairs_of(paints)
    if len(set(pairs)) < 3 or any([lesser == greater for lesser, greater in pairs]):
        return None
    corner = tuple([side for lesser, greater, side in placed_pairs(paints)])
    return 1 if corner in [(turn[0], turn[2], turn[4]) for turn in turns()] else 0


def is_paper(thing):
    """Tell of anything whether it is a paper by its word and its length."""
    if not isinstance(thing, tuple) or len(thing) == 0:
        return False
    word = thing[0]
    # A list can't be looked up.
    return isinstance(word, str) and PAPERS.get(word) == len(thing)


def turn_fault(one, other, turn):
    """Tell what is wrong with a turn from one to the other, or None."""
    if not is_turn(turn):
        return ("turn",)
    shown = look(one, turn)
    for side in range(6):
        if shown[side] != other[side]:
            return ("side", side)
    return None


def is_pair(lesser, greater):
    """Tell of any two things whether they are paints, the first no greater."""
    return is_from_nought(lesser) and is_from_nought(greater) and lesser <= greater


def pair_fault(one, other, lesser, greater):
    """Tell what is wrong with a pair that bars likeness, or None."""
    if not is_pair(lesser, greater):
        return ("pair",)
    pair = (lesser, greater)
    if pairs_of(one).count(pair) == pairs_of(other).count(pair):
        return ("many",)
    return None


def twin_fault(one, other):
    """Tell what is wrong where both are said to be twins, or None."""
    if pairs_of(one) != pairs_of(other):
        return ("pairs",)
    hands = [hand_of(one), hand_of(other)]
    if None in hands or hands[0] == hands[1]:
        return ("hands",)
    return None


def alike_judged(one, other, paper):
    """Tell None of a paper for two paints that is right, else what is wrong first."""
    check_paints(one)
    check_paints(other)
    if not is_paper(paper):
        return ("paper",)
    if paper[0] == "turn":
        return turn_fault(one, other, paper[1])
    if paper[0] == "pair":
        return pair_fault(one, other, paper[1], paper[2])
    return twin_fault(one, other)


def alike(one, other):
    """Tell a paper for two paints that the judge lets by."""
    check_paints(one)
    check_paints(other)
    for turn in turns():
        if look(one, turn) == other:
            return ("turn", turn)
    # Both have three pairs, so unlike ones show at a pair that the first has.
    for lesser, greater in pairs_of(one):
        if pair_fault(one, other, lesser, greater) is None:
            return ("pair", lesser, greater)
    return ("twin",)
