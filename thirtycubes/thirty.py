"""The thirty cubes of six unlike paints: their corners, their lots and their table."""

from thirtycubes.errors import NoChange, NoCube, NoSix
from thirtycubes.paints import check_paints, is_paints, least_paints, mirrored
from thirtycubes.turns import AXES, turns
from thirtycubes.whole import is_from_nought, is_whole

MANY = 30

# The told table of numbers. It serves any six: they rise, so which number a
# cube has hangs on the order of its paints alone. Written out, so that no
# asking has to look for it; the tests do.
TABLE = (
    (None, 0, 25, 21, 16, 8),
    (1, None, 14, 10, 19, 27),
    (24, 15, None, 2, 6, 22),
    (20, 11, 3, None, 29, 13),
    (17, 18, 7, 28, None, 4),
    (9, 26, 23, 12, 5, None),
)


def are_six(thing):
    """Tell of anything whether it is a tuple of six unlike paints, rising."""
    return is_paints(thing) and sorted(set(thing)) == list(thing)


def is_number(thing):
    """Tell whether a thing is the number of one of the thirty."""
    return is_from_nought(thing) and thing < MANY


def check_number(number):
    """Refuse what is no number of the thirty."""
    if not is_number(number):
        raise NoCube("not a number from 0 to 29")


def cubes_with(six):
    """Tell the least paints of all cubes that have each of the six once, in the order of tuples.

    The least paints have the least of the six above, and ahead the least of
    the four around.
    """
    above, *others = six
    cubes = []
    for beneath in others:
        ahead, *rest = [paint for paint in others if paint != beneath]
        cubes += [
            (above, beneath, ahead, behind, left, right)
            for behind in rest
            for left in rest
            for right in rest
            if len(set([behind, left, right])) == 3
        ]
    return cubes


def least_round(corner):
    """Tell a corner from that place on with which it is least."""
    first, second, third = corner
    return min([corner, (second, third, first), (third, first, second)])


def corners_of(paints):
    """Tell the eight corners of paints, rising."""
    check_paints(paints)
    # A corner has just one of the sides above and beneath: so each is taken once.
    sides = [(turn[0], turn[2], turn[4]) for turn in turns() if turn[0] in AXES[0]]
    return sorted([least_round((paints[one], paints[two], paints[three])) for one, two, three in sides])


def share_none(cubes):
    """Tell whether no two of some cubes of the thirty have a corner in common."""
    # The eight of one cube are unlike, so only two cubes can have the same.
    corners = [corner for paints in cubes for corner in corners_of(paints)]
    return len(set(corners)) == len(corners)


def lines_of(table):
    """Tell the numbers of each row, then of each column."""
    columns = [[row[place] for row in table] for place in range(6)]
    return [[number for number in line if number is not None] for line in list(table) + columns]


def has_table_form(thing):
    """Tell of anything whether it is six rows of six, None at place k of row k, else each number once."""
    if not isinstance(thing, list) or len(thing) != 6:
        return False
    if not all([isinstance(row, list) and len(row) == 6 for row in thing]):
        return False
    others = [row[place] for at, row in enumerate(thing) for place in range(6) if place != at]
    if not all([is_number(other) for other in others]) or sorted(others) != list(range(MANY)):
        return False
    return all([thing[at][at] is None for at in range(6)])


class Thirty:
    """The thirty cubes of six paints. It stays as it is."""

    def __init__(self, six):
        if not are_six(six):
            raise NoSix("not a tuple of six unlike paints, rising")
        self.six = six
        self.kept = cubes_with(six)

    def cubes(self):
        """Tell the least paints of the thirty, in the order of their numbers."""
        return list(self.kept)

    def number(self, paints):
        """Tell the number of the cube that is alike to paints."""
        check_paints(paints)
        if sorted(paints) != list(self.six):
            raise NoCube("not each of the six once")
        return self.kept.index(least_paints(paints))

    def twin(self, number):
        """Tell the number of the mirrored cube."""
        check_number(number)
        return self.number(mirrored(self.kept[number]))

    def shared(self, number, other):
        """Tell the corners that two numbers both have, rising."""
        check_number(number)
        check_number(other)
        others = corners_of(self.kept[other])
        return [corner for corner in corners_of(self.kept[number]) if corner in others]

    def lots(self):
        """Tell all lists of five numbers of which no two have a corner in common, in their order."""
        return sorted([sorted(line) for line in lines_of(TABLE)])

    def table(self):
        """Tell a table."""
        return [list(row) for row in TABLE]

    def is_table(self, thing):
        """Tell of anything whether it is a table."""
        if not has_table_form(thing):
            return False
        places = [(row, place) for row in range(6) for place in range(row)]
        if any([self.twin(thing[row][place]) != thing[place][row] for row, place in places]):
            return False
        return all([share_none([self.kept[number] for number in line]) for line in lines_of(thing)])

    def place(self, number):
        """Tell at which row and place of the told table a number stands."""
        check_number(number)
        return [(at, row.index(number)) for at, row in enumerate(TABLE) if number in row][0]

    def check_change(self, change):
        """Refuse what is no list of the six, each once."""
        # A truth would be taken for the paint 0 or 1.
        if not all([is_whole(paint) for paint in change]) or sorted(change) != list(self.six):
            raise NoChange("not each of the six once")

    def changed(self, number, change):
        """Tell the number of a cube whose paints become those of the change."""
        check_number(number)
        self.check_change(change)
        paints = self.kept[number]
        return self.number(tuple([change[self.six.index(paint)] for paint in paints]))

    def rows_changed(self, change):
        """Tell for each row of the told table in which row its numbers stand, changed."""
        # A change leads rows to rows, so one number shows where its row goes;
        # twins lead the columns along.
        firsts = [[number for number in row if number is not None][0] for row in TABLE]
        return [self.place(self.changed(number, change))[0] for number in firsts]

    def __eq__(self, other):
        return isinstance(other, Thirty) and self.six == other.six

    def __len__(self):
        return 30

    def __str__(self):
        return " ".join([str(paint) for paint in self.six])

    def __repr__(self):
        return f"Thirty({self.six!r})"
