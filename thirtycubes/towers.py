"""Towers: cubes one on another, each paint just once on each long side; or a tree that bars them."""

from thirtycubes.errors import NoCubes
from thirtycubes.paints import are_many_paints, look
from thirtycubes.turns import AHEAD, AXES, LEFT, is_turn, turns
from thirtycubes.whole import is_from_nought

MOST_CUBES = 5

LONG_SIDES = (2, 3, 4, 5)

# The axis for the first round, then the one for the second.
CHOICES = ((0, 1), (0, 2), (1, 0), (1, 2), (2, 0), (2, 1))


def check_cubes(cubes):
    """Refuse what are no cubes for a tower."""
    if not are_many_paints(cubes, MOST_CUBES) or max([max(paints) for paints in cubes]) >= len(cubes):
        raise NoCubes("not a list of the paints of one to five cubes, less than their number")


def times_on(paints, axis, paint):
    """Tell how often a paint stands on an axis."""
    side, across = AXES[axis]
    return (paints[side], paints[across]).count(paint)


def times_chosen(cubes, chosen, lap, paint):
    """Tell how often a paint stands in the chosen axes of a round."""
    return sum([times_on(paints, choice[lap], paint) for paints, choice in zip(cubes, chosen)])


def times_at_most(cubes, paint):
    """Tell how often a paint stands on one axis of each cube, chosen so that it is most."""
    return sum([max([times_on(paints, axis, paint) for axis in range(3)]) for paints in cubes])


def is_more(cubes, chosen, lap, paint):
    """Tell whether a paint stands more than twice in a round."""
    return times_chosen(cubes, chosen, lap, paint) > 2


def is_less(cubes, chosen, lap, paint):
    """Tell whether a paint can't come to two in a round any more."""
    return times_chosen(cubes, chosen, lap, paint) + times_at_most(cubes[len(chosen):], paint) < 2


def is_case(thing):
    """Tell of anything whether it is a case by its form."""
    if not isinstance(thing, tuple) or len(thing) != 2:
        return False
    return thing[0] == "case" and isinstance(thing[1], list) and len(thing[1]) == len(CHOICES)


def is_leaf(thing, paints):
    """Tell of anything whether it is a more or a less by its form, with one of so many paints."""
    if not isinstance(thing, tuple) or len(thing) != 3 or thing[0] not in ("more", "less"):
        return False
    lap, paint = thing[1:]
    return is_from_nought(lap) and lap <= 1 and is_from_nought(paint) and paint < paints


def is_right_leaf(cubes, chosen, thing):
    """Tell of anything whether it is a more or a less, by its form and its saying."""
    if not is_leaf(thing, len(cubes)):
        return False
    word, lap, paint = thing
    return is_more(cubes, chosen, lap, paint) if word == "more" else is_less(cubes, chosen, lap, paint)


def tree_fault(cubes, tree, numbers):
    """Tell the numbers that lead to the first tree that is none, or None; numbers led to this one."""
    if len(numbers) < len(cubes) and is_case(tree):
        for number, branch in enumerate(tree[1]):
            fault = tree_fault(cubes, branch, numbers + (number,))
            if fault is not None:
                return fault
        return None
    chosen = [CHOICES[number] for number in numbers]
    return None if is_right_leaf(cubes, chosen, tree) else numbers


def are_turns(thing):
    """Tell of anything whether it is a list of turns."""
    return isinstance(thing, list) and all([is_turn(part) for part in thing])


def turns_fault(cubes, thing):
    """Tell what is wrong with the turns of a tower, or None."""
    if not are_turns(thing) or len(thing) != len(cubes):
        return ("turns",)
    shown = [look(paints, turn) for paints, turn in zip(cubes, thing)]
    for side in LONG_SIDES:
        seen = [paints[side] for paints in shown]
        for paint in range(len(cubes)):
            if seen.count(paint) != 1:
                return ("shown", side, paint)
    return None


def tower_judged(cubes, paper):
    """Tell None of a paper of towers that is right, else what is wrong first."""
    check_cubes(cubes)
    if not isinstance(paper, tuple) or len(paper) != 2 or paper[0] not in ("tower", "none"):
        return ("paper",)
    if paper[0] == "tower":
        return turns_fault(cubes, paper[1])
    numbers = tree_fault(cubes, paper[1], ())
    return None if numbers is None else ("tree", numbers)


def sides_shown(cubes, axes):
    """Tell a side of each cube's axis so that they show each paint once.

    There are such sides where each paint stands just twice on the axes, and
    then the opposite sides show each paint once, too.
    """
    ways = [[]]
    for axis in axes:
        ways = [sides + [side] for sides in ways for side in AXES[axis]]
    due = list(range(len(cubes)))
    fitting = [sides for sides in ways if sorted([paints[side] for paints, side in zip(cubes, sides)]) == due]
    return fitting[0]


def turn_with(ahead, left):
    """Tell the turn that brings two neighbouring sides ahead and to the left."""
    return [turn for turn in turns() if turn[ahead] == AHEAD and turn[left] == LEFT][0]


def turns_chosen(cubes, chosen):
    """Tell the turns of a tower of choices with which each paint stands twice in both rounds."""
    ahead = sides_shown(cubes, [choice[0] for choice in chosen])
    left = sides_shown(cubes, [choice[1] for choice in chosen])
    return [turn_with(front, flank) for front, flank in zip(ahead, left)]


def leaf_for(cubes, chosen):
    """Tell a more or a less that is right behind these choices, or None."""
    for lap in (0, 1):
        for paint in range(len(cubes)):
            if is_more(cubes, chosen, lap, paint):
                return ("more", lap, paint)
            if is_less(cubes, chosen, lap, paint):
                return ("less", lap, paint)
    return None


def paper_behind(cubes, chosen):
    """Tell a tower whose first cubes have these choices, else the tree behind them, as a paper."""
    leaf = leaf_for(cubes, chosen)
    if leaf is not None:
        return ("none", leaf)
    # Neither more nor less than twice, with no cube left: just twice.
    if len(chosen) == len(cubes):
        return ("tower", turns_chosen(cubes, chosen))
    trees = []
    for choice in CHOICES:
        word, found = paper_behind(cubes, chosen + [choice])
        if word == "tower":
            return (word, found)
        trees.append(found)
    return ("none", ("case", trees))


def tower(cubes):
    """Tell a paper of towers that the judge lets by."""
    check_cubes(cubes)
    return paper_behind(cubes, [])
