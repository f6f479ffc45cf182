"""A shelf: named cubes and piles of them, told by rows and asked by rows."""

from thirtycubes.alike import alike
from thirtycubes.errors import NoBack, NoName, NoPaints, NoPlace, NoRow, NoWord, TooMany
from thirtycubes.paints import least_paints, leaving, look, mirrored
from thirtycubes.texts import paints_in, paints_text, paper_text, turn_in
from thirtycubes.thirty import Thirty, are_six
from thirtycubes.towers import LONG_SIDES
from thirtycubes.turns import turns, word_of

SMALL = "abcdefghijklmnopqrstuvwxyz"

MOST_LETTERS = 8
MOST_CUBES = 20
MOST_FIGURES = 30

# What is kept is a dict from each name, in the order in which they came, to
# its cube's paints and the name of the cube on which it stands (None: the
# shelf). No dict is changed once it is kept: a deed makes another one.


def paints_at(kept, name):
    """Tell the paints of the cube of a name."""
    return kept[name][0]


def standing_on(kept, name):
    """Tell the name of the cube that stands on another one, or None."""
    above = [other for other in kept if kept[other][1] == name]
    return above[0] if len(above) > 0 else None


def pile_from(kept, name):
    """Tell the names of a cube and of all that stands on it, from beneath on."""
    pile = []
    reached = name
    while reached is not None:
        pile.append(reached)
        reached = standing_on(kept, reached)
    return pile


def pile_of(kept, name):
    """Tell the names of the pile in which a cube stands, from beneath on."""
    lowest = name
    while kept[lowest][1] is not None:
        lowest = kept[lowest][1]
    return pile_from(kept, lowest)


def put_cube(kept, name, paints):
    """Put a new cube on the shelf."""
    if len(kept) >= MOST_CUBES:
        raise TooMany("twenty cubes are there")
    return {**kept, name: (paints, None)}


def turn_cube(kept, name, turn):
    """Turn a cube where it stands."""
    paints, under = kept[name]
    return {**kept, name: (look(paints, turn), under)}


def paint_cube(kept, name, paints):
    """Give a cube other paints where it stands."""
    return {**kept, name: (paints, kept[name][1])}


def set_cube(kept, name, under):
    """Set a cube, with all that stands on it, on another one."""
    if under in pile_from(kept, name):
        raise NoPlace("a cube can't stand on itself")
    if standing_on(kept, under) not in (None, name):
        raise NoPlace("another cube stands there")
    return {**kept, name: (paints_at(kept, name), under)}


def set_down(kept, name):
    """Set a cube, with all that stands on it, on the shelf."""
    return {**kept, name: (paints_at(kept, name), None)}


def drop_cube(kept, name):
    """Take a cube away."""
    if standing_on(kept, name) is not None:
        raise NoPlace("a cube stands on it")
    return {other: kept[other] for other in kept if other != name}


def names_told(kept):
    """Tell all names, in the order in which they came."""
    return " ".join(list(kept))


def show_told(kept, name):
    """Tell the paints of a cube, as it lies."""
    return paints_text(paints_at(kept, name))


def cube_told(kept, name):
    """Tell the least paints of a cube."""
    return paints_text(least_paints(paints_at(kept, name)))


def leave_told(kept, name):
    """Tell how many turns leave a cube as it is."""
    return str(len(leaving(paints_at(kept, name))))


def how_told(kept, name, other):
    """Tell the shortest turn from one cube to another one, or what bars it."""
    one = paints_at(kept, name)
    two = paints_at(kept, other)
    leading = [(len(word_of(turn)), word_of(turn), turn) for turn in turns() if look(one, turn) == two]
    return paper_text(("turn", min(leading)[2]) if len(leading) > 0 else alike(one, two))


def pile_told(kept, name):
    """Tell the names of a cube's pile, from beneath on."""
    return " ".join(pile_of(kept, name))


def four_told(kept, name):
    """Tell whether a cube's pile shows unlike paints at each of its four sides."""
    pile = [paints_at(kept, other) for other in pile_of(kept, name)]
    unlike = [len(set([paints[side] for paints in pile])) == len(pile) for side in LONG_SIDES]
    return "yes" if all(unlike) else "no"


def number_told(kept, name):
    """Tell a cube's number among the thirty of its six paints, if they are unlike."""
    paints = paints_at(kept, name)
    six = tuple(sorted(paints))
    return str(Thirty(six).number(paints)) if are_six(six) else "none"


def twin_told(kept, name, other):
    """Tell whether the second cube is alike to the mirrored first one."""
    mirror = least_paints(mirrored(paints_at(kept, name)))
    return "yes" if least_paints(paints_at(kept, other)) == mirror else "no"


def new_name(kept, word):
    """Tell a name by which no cube is there."""
    if not 1 <= len(word) <= MOST_LETTERS or not all([letter in SMALL for letter in word]):
        raise NoName("not one to eight small letters")
    if word in kept:
        raise NoName("a cube of this name is there")
    return word


def known_name(kept, word):
    """Tell a name by which a cube is there."""
    if word not in kept:
        raise NoName("no cube of this name is there")
    return word


def paints_for(word):
    """Tell the paints that a word writes."""
    paints = paints_in(word)
    if paints is None or max([len(figures) for figures in word.split(",")]) > MOST_FIGURES:
        raise NoPaints("not six numbers of at most thirty figures")
    return paints


def turn_for(word):
    """Tell the turn that a word writes."""
    turn = turn_in(word)
    if turn is None:
        raise NoWord("not a word of quarters")
    return turn


def thing_for(kept, kind, word):
    """Tell what a word of a row means."""
    if kind == "new":
        return new_name(kept, word)
    if kind == "name":
        return known_name(kept, word)
    return paints_for(word) if kind == "paints" else turn_for(word)


# What each row has behind its first word.
FORMS = {
    "put": ("new", "paints"),
    "turn": ("name", "turn"),
    "paint": ("name", "paints"),
    "set": ("name", "name"),
    "down": ("name",),
    "drop": ("name",),
    "back": (),
    "names": (),
    "show": ("name",),
    "cube": ("name",),
    "leave": ("name",),
    "how": ("name", "name"),
    "pile": ("name",),
    "four": ("name",),
    "number": ("name",),
    "twin": ("name", "name"),
}

# Each deed tells what is kept behind it, or refuses.
DEEDS = {
    "put": put_cube,
    "turn": turn_cube,
    "paint": paint_cube,
    "set": set_cube,
    "down": set_down,
    "drop": drop_cube,
}

QUESTIONS = {
    "names": names_told,
    "show": show_told,
    "cube": cube_told,
    "leave": leave_told,
    "how": how_told,
    "pile": pile_told,
    "four": four_told,
    "number": number_told,
    "twin": twin_told,
}


class Shelf:
    """A shelf of named cubes."""

    def __init__(self):
        self.now = {}
        # What was kept ahead of each deed that wasn't taken back.
        self.before = []

    def say(self, row):
        """Do what a row says, or answer what it asks."""
        first, *words = row.split(" ")
        if first not in FORMS or len(words) != len(FORMS[first]):
            raise NoRow("another first word or count of words")
        things = [thing_for(self.now, kind, word) for kind, word in zip(FORMS[first], words)]
        if first in QUESTIONS:
            question = QUESTIONS[first]
            return question(self.now, *things)
        if first == "back":
            self.take_back()
        else:
            deed = DEEDS[first]
            self.become(deed(self.now, *things))
        return "ok"

    def become(self, kept):
        """Keep what a deed made, and behind it what was ahead of the deed."""
        self.before.append(self.now)
        self.now = kept

    def take_back(self):
        """Take the last deed back."""
        if len(self.before) == 0:
            raise NoBack("there is no deed")
        self.now = self.before.pop()
