"""Texts of paints, turns, pictures, boxes and papers, there and back."""

from thirtycubes.alike import is_pair
from thirtycubes.cubes import Cube
from thirtycubes.errors import NoBase, NoPaper, NoText, NoWord
from thirtycubes.paints import check_paints, least_paints
from thirtycubes.towers import MOST_CUBES, are_turns, is_case, is_leaf
from thirtycubes.turns import STILL, is_turn, turn_of, word_of
from thirtycubes.whole import is_whole

FIGURES = "0123456789abcdefghijklmnopqrstuvwxyz"

MOST_IN_BOX = 100

LEAVES = {"m": "more", "l": "less"}


def check_base(base):
    """Refuse what is no base."""
    if not is_whole(base) or not 2 <= base <= len(FIGURES):
        raise NoBase("not from 2 to 36")


def number_text(number, base=10):
    """Write a number from 0 on in a base."""
    text = FIGURES[number % base]
    left = number // base
    while left > 0:
        text = FIGURES[left % base] + text
        left //= base
    return text


def value_of(text, base=10):
    """Tell the number that a text of figures writes, with any noughts ahead; None of another text."""
    if text == "":
        return None
    number = 0
    for sign in text:
        figure = FIGURES[:base].find(sign)
        if figure < 0:
            return None
        number = number * base + figure
    return number


def number_in(text, base=10):
    """Tell the number that a text writes in a base, None where it isn't as told."""
    # Nothing but 0 itself begins with a nought.
    return None if text.startswith("0") and text != "0" else value_of(text, base)


def paints_in(text, base=10):
    """Tell the paints that a text writes in a base, None where it isn't as told."""
    paints = tuple([number_in(part, base) for part in text.split(",")])
    return None if len(paints) != 6 or None in paints else paints


def paints_text(paints, base=10):
    """Write paints in a base."""
    check_base(base)
    check_paints(paints)
    return ",".join([number_text(paint, base) for paint in paints])


def read_paints(text, base=10):
    """Tell the paints that a text writes in a base."""
    check_base(base)
    paints = paints_in(text, base)
    if paints is None:
        raise NoText()
    return paints


def turn_in(text):
    """Tell the turn that a text writes, None where it isn't as told."""
    if text == "-":
        return STILL
    if text == "":
        return None
    try:
        return turn_of(text)
    except NoWord:
        return None


def turn_text(turn):
    """Write a turn by its shortest word."""
    word = word_of(turn)
    return "-" if word == "" else word


def read_turn(text):
    """Tell the turn that a text writes."""
    turn = turn_in(text)
    if turn is None:
        raise NoText()
    return turn


def picture(paints):
    """Draw an unfolded cube."""
    check_paints(paints)
    written = [number_text(paint) for paint in paints]
    wide = max([len(text) for text in written])
    above, beneath, ahead, behind, left, right = [text.zfill(wide) for text in written]
    margin = " " * (wide + 1)
    return "\n".join([margin + above, " ".join([left, ahead, right, behind]), margin + beneath])


def read_picture(text):
    """Tell the paints of a picture."""
    lines = text.split("\n")
    if len(lines) != 3 or len(lines[1].split(" ")) != 4:
        raise NoText()
    left, ahead, right, behind = lines[1].split(" ")
    written = [lines[0].lstrip(" "), lines[2].lstrip(" "), ahead, behind, left, right]
    paints = tuple([value_of(figures) for figures in written])
    # Blanks and noughts are as told where the picture comes out the same.
    if None in paints or picture(paints) != text:
        raise NoText()
    return paints


def box_text(cubes):
    """Write how many of each of the unlike cubes a box has."""
    counts = {}
    for cube in cubes:
        least = least_paints(cube.paints())
        counts[least] = counts.get(least, 0) + 1
    return "\n".join([f"{counts[least]} x {paints_text(least)}" for least in counts])


def line_in(line):
    """Tell how many cubes, and of which paints, a line of a box writes; None where it is of another form."""
    words = line.split(" ")
    if len(words) != 3 or words[1] != "x":
        return None
    told = (number_in(words[0]), paints_in(words[2]))
    return None if None in told else told


def read_box(text):
    """Tell the cubes of a box."""
    if text == "":
        return []
    counts = {}
    for row, line in enumerate(text.split("\n")):
        told = line_in(line)
        if told is None:
            raise NoText(row)
        many, paints = told
        if not 1 <= many <= MOST_IN_BOX - sum(list(counts.values())):
            raise NoText(row)
        if paints != least_paints(paints) or paints in counts:
            raise NoText(row)
        counts[paints] = many
    return [Cube(paints) for paints in counts for each in range(counts[paints])]


def is_tree(thing, cases):
    """Tell of anything whether it is a tree by its form, of at most so many cases within one another."""
    # A tree has no more cases within one another than a tower has cubes, and
    # no more paints.
    if is_case(thing):
        return cases > 0 and all([is_tree(branch, cases - 1) for branch in thing[1]])
    return is_leaf(thing, MOST_CUBES)


def has_paper_form(thing):
    """Tell of anything whether it is a paper by its form."""
    if not isinstance(thing, tuple) or not 1 <= len(thing) <= 3:
        return False
    if len(thing) == 1:
        return thing[0] == "twin"
    if len(thing) == 3:
        return thing[0] == "pair" and is_pair(thing[1], thing[2])
    word, told = thing
    if word == "turn":
        return is_turn(told)
    if word == "tower":
        return are_turns(told) and 1 <= len(told) <= MOST_CUBES
    return word == "none" and is_tree(told, MOST_CUBES)


def tree_text(tree):
    """Write a tree that has the form."""
    if len(tree) == 2:
        return "[" + "".join([tree_text(branch) for branch in tree[1]]) + "]"
    word, lap, paint = tree
    return f"{word[0]}{lap}{paint}"


def paper_text(paper):
    """Write a paper."""
    if not has_paper_form(paper):
        raise NoPaper("no paper by its form")
    word = paper[0]
    if word == "turn":
        return f"turn {turn_text(paper[1])}"
    if word == "pair":
        return f"pair {number_text(paper[1])} {number_text(paper[2])}"
    if word == "tower":
        return " ".join(["tower"] + [turn_text(turn) for turn in paper[1]])
    return f"none {tree_text(paper[1])}" if word == "none" else "twin"


def leaf_at(text, at):
    """Tell the more or less that is written at a place of a text, and the place behind it, or None."""
    signs = text[at:at + 3]
    if len(signs) < 3 or signs[0] not in LEAVES:
        return None
    leaf = (LEAVES[signs[0]], FIGURES.find(signs[1]), FIGURES.find(signs[2]))
    return (leaf, at + 3) if is_leaf(leaf, MOST_CUBES) else None


def tree_at(text, at, cases):
    """Tell the tree of at most so many cases that is written at a place, and the place behind it, or None."""
    if text[at:at + 1] != "[":
        return leaf_at(text, at)
    if cases == 0:
        return None
    trees = []
    behind = at + 1
    while len(trees) < 6:
        told = tree_at(text, behind, cases - 1)
        if told is None:
            return None
        tree, behind = told
        trees.append(tree)
    return (("case", trees), behind + 1) if text[behind:behind + 1] == "]" else None


def tree_in(text):
    """Tell the tree that a text writes, None where it isn't as told."""
    told = tree_at(text, 0, MOST_CUBES)
    return told[0] if told is not None and told[1] == len(text) else None


def paper_in(words):
    """Tell the paper that words write, which may yet be none by its form."""
    word = words[0]
    if word == "turn" and len(words) == 2:
        return ("turn", turn_in(words[1]))
    if word == "pair" and len(words) == 3:
        return ("pair", number_in(words[1]), number_in(words[2]))
    if word == "tower":
        return ("tower", [turn_in(told) for told in words[1:]])
    if word == "none" and len(words) == 2:
        return ("none", tree_in(words[1]))
    return ("twin",) if words == ["twin"] else None


def read_paper(text):
    """Tell the paper that a text writes."""
    paper = paper_in(text.split(" "))
    if not has_paper_form(paper):
        raise NoText()
    return paper
