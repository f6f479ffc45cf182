"""Paints: a tuple of six whole numbers from 0 on, one for each side."""

from thirtycubes.errors import NoPaints
from thirtycubes.turns import check_turn, turns
from thirtycubes.whole import are_six_whole


def is_paints(thing):
    """Tell of anything whether it is a tuple of six paints."""
    return are_six_whole(thing) and min(thing) >= 0


def check_paints(paints):
    """Refuse what are no paints."""
    if not is_paints(paints):
        raise NoPaints("not six paints")


def are_many_paints(thing, most):
    """Tell of anything whether it is a list of the paints of one to so many cubes."""
    if not isinstance(thing, list) or not 1 <= len(thing) <= most:
        return False
    return all([is_paints(part) for part in thing])


def look(paints, turn):
    """Turn right paints by a right turn."""
    shown = [0] * 6
    for paint, side in zip(paints, turn):
        shown[side] = paint
    return tuple(shown)


def all_looks(paints):
    """Turn right paints by every turn, in the order of the turns."""
    return [look(paints, turn) for turn in turns()]


def turned(paints, turn):
    """Tell the paints behind a turn."""
    check_paints(paints)
    check_turn(turn)
    return look(paints, turn)


def least_paints(paints):
    """Tell the least of all turned paints, as tuples."""
    check_paints(paints)
    return min(all_looks(paints))


def mirrored(paints):
    """Tell the paints with those on the left and right exchanged."""
    check_paints(paints)
    above, beneath, ahead, behind, left, right = paints
    return (above, beneath, ahead, behind, right, left)


def leaving(paints):
    """Tell the turns that leave paints as they are, in their order."""
    check_paints(paints)
    return [turn for turn in turns() if look(paints, turn) == paints]


def looks(paints):
    """Tell all unlike turned paints, in the order of tuples."""
    check_paints(paints)
    return sorted(set(all_looks(paints)))
