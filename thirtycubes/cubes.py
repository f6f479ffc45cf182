"""Cubes: objects of paints that are equal where a turn makes them so."""

from thirtycubes.paints import least_paints, mirrored, turned
from thirtycubes.turns import STILL

NOUGHTS = (0, 0, 0, 0, 0, 0)


class Cube:
    """A cube as it lies. It stays so: what turns it makes another one."""

    def __init__(self, paints=None):
        own = NOUGHTS if paints is None else paints
        # Kept beside the paints, as many comparings ask for them.
        self.least = least_paints(own)
        self.painted = own

    def paints(self):
        """Tell the paints, as the cube lies."""
        return self.painted

    def turned(self, turn=None):
        """Tell another cube, turned; of None by the turn that leaves all."""
        return Cube(turned(self.painted, STILL if turn is None else turn))

    def mirrored(self):
        """Tell another cube, of the mirrored paints."""
        return Cube(mirrored(self.painted))

    def __eq__(self, other):
        return isinstance(other, Cube) and self.least == other.least

    def __len__(self):
        return len(set(self.painted))

    def __str__(self):
        return " ".join([str(paint) for paint in self.least])

    def __repr__(self):
        return f"Cube({self.painted!r})"
