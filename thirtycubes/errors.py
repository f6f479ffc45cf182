"""The refusals: one class for each, straight under CubeError."""


class CubeError(ValueError):
    """Any refusal."""


class NoTurn(CubeError):
    """What was handed in as a turn is none."""


class NoWord(CubeError):
    """A text is no word of quarters."""


class NoPaints(CubeError):
    """What was handed in as paints are none."""


class NoPalette(CubeError):
    """A number is no palette, or none that can be told of."""


class NoCounts(CubeError):
    """What was handed in as counts are none."""


class NoNumber(CubeError):
    """No cube of the palette has the number."""


class NoFit(CubeError):
    """A paint isn't of the palette."""


class NoCubes(CubeError):
    """What was handed in as cubes are none."""


class NoSix(CubeError):
    """What was handed in as six are none."""


class NoCube(CubeError):
    """None of the thirty cubes is meant."""


class NoChange(CubeError):
    """A list is no change of the six."""


class NoStock(CubeError):
    """A list is no stock: at is the first place that is wrong."""

    def __init__(self, at):
        super().__init__(f"no stock: place {at}")
        self.at = at


class NoRow(CubeError):
    """A row that a shelf is told has no known form."""


class NoName(CubeError):
    """A name is none, or is not there, or is there already."""


class TooMany(CubeError):
    """A shelf is full."""


class NoPlace(CubeError):
    """A cube can't be set there, or can't be dropped."""


class NoBack(CubeError):
    """There is no deed to take back."""


class NoBase(CubeError):
    """A number is no base."""


class NoPaper(CubeError):
    """What was handed in as a paper is none."""


class NoText(CubeError):
    """A text isn't as told: row is the first line that is wrong."""

    def __init__(self, row=0):
        super().__init__(f"no such text: row {row}")
        self.row = row
