"""Palettes: how many unlike cubes there are, and their numbers."""

from thirtycubes.errors import NoCounts, NoFit, NoNumber, NoPalette
from thirtycubes.paints import all_looks, check_paints, least_paints
from thirtycubes.whole import is_from_nought

MOST_NUMBERED = 4

# How many turns there are of each kind, and how many sides each of the rings
# has in which such a turn leads the sides round.
KINDS = (
    (1, (1, 1, 1, 1, 1, 1)),
    (6, (4, 1, 1)),
    (3, (2, 2, 1, 1)),
    (6, (2, 2, 2)),
    (8, (3, 3)),
)


def how_many(palette=6):
    """Tell how many unlike cubes have paints of a palette alone."""
    if not is_from_nought(palette):
        raise NoPalette("not a whole number from 0 on")
    return (palette ** 6 + 3 * palette ** 4 + 12 * palette ** 3 + 8 * palette ** 2) // 24


def are_counts(thing):
    """Tell of anything whether it is a list of numbers from 0 on that come to six."""
    return isinstance(thing, list) and all([is_from_nought(part) for part in thing]) and sum(thing) == 6


def ways_to_paint(rings, counts):
    """Tell in how many ways each ring gets one paint, so that the counts are used up."""
    if len(rings) == 0:
        return 1
    ways = 0
    for paint, many in enumerate(counts):
        if many >= rings[0]:
            left = counts[:paint] + [many - rings[0]] + counts[paint + 1:]
            ways += ways_to_paint(rings[1:], left)
    return ways


def how_many_with(counts):
    """Tell how many unlike cubes have so many sides of each paint."""
    if not are_counts(counts):
        raise NoCounts("not a list of numbers from 0 on that come to six")
    # A paint of no side changes nothing, and there may be very many such.
    used = [many for many in counts if many > 0]
    # The turns' mean of the looks that each leaves as they are.
    return sum([turns * ways_to_paint(rings, used) for turns, rings in KINDS]) // 24


def check_numbered(palette):
    """Refuse a palette whose cubes aren't numbered."""
    if not is_from_nought(palette) or palette > MOST_NUMBERED:
        raise NoPalette("not from 0 to four")


def likely_paints(palette):
    """Tell all paints of a palette with none less than the one above, in the order of tuples."""
    return [
        (above, beneath, ahead, behind, left, right)
        for above in range(palette)
        for beneath in range(above, palette)
        for ahead in range(above, palette)
        for behind in range(above, palette)
        for left in range(above, palette)
        for right in range(above, palette)
    ]


def all_cubes(palette=2):
    """Tell the least paints of all unlike cubes of a palette, in the order of tuples."""
    check_numbered(palette)
    seen = set()
    cubes = []
    # The first look that one comes upon is the cube's least, and that has its
    # least paint above.
    for paints in likely_paints(palette):
        if paints not in seen:
            cubes.append(paints)
            for shown in all_looks(paints):
                seen.add(shown)
    return cubes


def number_of(palette, paints):
    """Tell the number, in a palette, of the cube that has some paints."""
    check_numbered(palette)
    check_paints(paints)
    if max(paints) >= palette:
        raise NoFit("a paint that isn't of the palette")
    return all_cubes(palette).index(least_paints(paints))


def cube_of(palette, number):
    """Tell the least paints of the cube that has a number in a palette."""
    cubes = all_cubes(palette)
    if not is_from_nought(number) or number >= len(cubes):
        raise NoNumber("no cube of the palette has this number")
    return cubes[number]
