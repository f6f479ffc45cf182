"""Rows and rings: cubes side by side that have the same paint where they touch."""

from thirtycubes.errors import NoCubes
from thirtycubes.paints import are_many_paints, look
from thirtycubes.turns import LEFT, RIGHT, is_turn, turns
from thirtycubes.whole import is_whole

MOST_CUBES = 7


def check_cubes(cubes):
    """Refuse what are no cubes for a row."""
    if not are_many_paints(cubes, MOST_CUBES):
        raise NoCubes("not a list of the paints of one to seven cubes")


def is_placed(thing):
    """Tell of anything whether it is a tuple of a number and a turn."""
    return isinstance(thing, tuple) and len(thing) == 2 and is_whole(thing[0]) and is_turn(thing[1])


def has_row_form(thing, many):
    """Tell of anything whether it places each of so many cubes once."""
    if not isinstance(thing, list) or len(thing) != many or not all([is_placed(part) for part in thing]):
        return False
    return sorted([number for number, turn in thing]) == list(range(many))


def row_judged(cubes, thing, ring=False):
    """Tell None of a row, or a ring, that is right, else what is wrong first."""
    check_cubes(cubes)
    if not has_row_form(thing, len(cubes)):
        return ("row",)
    shown = [look(cubes[number], turn) for number, turn in thing]
    followed = shown[1:] + shown[:1] if ring else shown[1:]
    for place, follower in enumerate(followed):
        if shown[place][RIGHT] != follower[LEFT]:
            return ("side", place)
    return None


def lying_turns():
    """Tell for each side one turn that brings it to the left."""
    chosen = {}
    for turn in turns():
        chosen.setdefault(turn.index(LEFT), turn)
    return list(chosen.values())


def steps_by_paint(cubes):
    """Tell for each paint the ways to lay a cube with it on the left: number, turn, paint on the right."""
    steps = {}
    for number, paints in enumerate(cubes):
        for turn in lying_turns():
            shown = look(paints, turn)
            steps.setdefault(shown[LEFT], []).append((number, turn, shown[RIGHT]))
    return steps


def row_from(steps, numbers, paint, end, dead):
    """Tell a row of the cubes of these numbers from a paint on the left to an end (None: any), or None.

    What was found to lead nowhere is kept in dead: the same cubes are left
    behind many orders of the others.
    """
    if len(numbers) == 0:
        return [] if end is None or end == paint else None
    if (numbers, paint, end) in dead:
        return None
    for number, turn, right in steps[paint]:
        if number in numbers:
            left = tuple([kept for kept in numbers if kept != number])
            row = row_from(steps, left, right, end, dead)
            if row is not None:
                return [(number, turn)] + row
    dead[(numbers, paint, end)] = True
    return None


def row_of(cubes, ring=False):
    """Tell a row of all cubes, or a ring, or None where there is none."""
    check_cubes(cubes)
    steps = steps_by_paint(cubes)
    dead = {}
    for paint in steps:
        row = row_from(steps, tuple(range(len(cubes))), paint, paint if ring else None, dead)
        if row is not None:
            return row
    return None
