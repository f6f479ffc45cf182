import copy
import unittest
from itertools import product

from tests import helper
from thirtycubes.cubes import Cube
from thirtycubes.errors import NoBase, NoPaints, NoPaper, NoText, NoTurn
from thirtycubes.texts import (
    box_text, paints_text, paper_text, picture, read_box, read_paints, read_paper, read_picture, read_turn, turn_text,
)
from thirtycubes.towers import tower

G = helper.GREAT
FIGURES = "0123456789abcdefghijklmnopqrstuvwxyz"
STILL = (0, 1, 2, 3, 4, 5)
U, F = helper.QUARTERS["u"], helper.QUARTERS["f"]
NO_BASES = (1, 0, -1, -2, -10, 37, 38, 100, G, -G)

# The shortest word of a turn is set last.
TURN_TEXTS = {helper.slow_turn(word): word or "-" for word in reversed(helper.short_words())}


def slow_number(number, base):
    """By the greatest power of the base that the number reaches."""
    if number == 0:
        return "0"
    power = 1
    while power * base <= number:
        power *= base
    text = ""
    while power:
        text += FIGURES[number // power]
        number, power = number % power, power // base
    return text


def slow_paints(paints, base):
    return ",".join(slow_number(paint, base) for paint in paints)


def slow_picture(paints):
    wide = max(len(str(paint)) for paint in paints)
    above, beneath, ahead, behind, left, right = ["%0*d" % (wide, paint) for paint in paints]
    blanks = (wide + 1) * " "
    return f"{blanks}{above}\n{left} {ahead} {right} {behind}\n{blanks}{beneath}"


def bent_texts(text, signs):
    """A text with each sign gone, twice, or another one, and with one more at each place."""
    found = []
    for place in range(len(text) + 1):
        found += [text[:place] + sign + text[place:] for sign in signs]
        if place < len(text):
            found.append(text[:place] + text[place + 1:])
            found += [text[:place] + sign + text[place + 1:] for sign in signs]
            found.append(text[:place] + text[place].swapcase() + text[place + 1:])
    return [bent for bent in found if bent != text]


class TextCase(unittest.TestCase):
    def refuses(self, asked, text, row=0, **named):
        with self.subTest(text=text, named=named):
            with self.assertRaises(NoText) as caught:
                asked(text, **named)
            self.assertEqual(caught.exception.row, row)
            self.assertIs(type(caught.exception.row), int)

    def only_there_and_back(self, read, write, text):
        """A text is either refused, or the very one that is written of what it tells."""
        try:
            told = read(text)
        except NoText as refusal:
            self.assertEqual(refusal.row, 0)
            return False
        self.assertEqual(write(told), text)
        return True


class Paints(TextCase):
    def test_of_some(self):
        self.assertEqual(paints_text((0, 1, 2, 3, 10, 11)), "0,1,2,3,10,11")
        self.assertEqual(paints_text((0, 1, 2, 3, 10, 11), 2), "0,1,10,11,1010,1011")
        self.assertEqual(paints_text((35, 36, 10, 9, 71, 1296), 36), "z,10,a,9,1z,100")
        self.assertEqual(paints_text((255, 16, 15, 0, 1, 256), base=16), "ff,10,f,0,1,100")
        self.assertEqual(read_paints("z,10,a,9,1z,100", 36), (35, 36, 10, 9, 71, 1296))
        self.assertEqual(read_paints(text="0,1,10,11,1010,1011", base=2), (0, 1, 2, 3, 10, 11))
        self.assertEqual(read_paints("0,1,10,11,1010,1011"), (0, 1, 10, 11, 1010, 1011))

    def test_there_and_back(self):
        for base in range(2, 37):
            around = (base - 1, base, base + 1, base * base - 1, base * base, 0)
            for paints in helper.some_paints()[::9] + [around, (G, G - 1, 0, 1, 35, 36)]:
                text = paints_text(paints, base)
                self.assertIs(type(text), str)
                self.assertEqual(text, slow_paints(paints, base))
                self.assertEqual(tuple(int(part, base) for part in text.split(",")), paints)
                told = read_paints(text, base)
                self.assertIs(type(told), tuple)
                self.assertEqual(told, paints)

    def test_of_no_base_told_ten(self):
        for paints in helper.some_paints():
            text = ",".join(str(paint) for paint in paints)
            self.assertEqual(paints_text(paints), text)
            self.assertEqual(paints_text(paints=paints), text)
            self.assertEqual(read_paints(text), paints)
            self.assertEqual(read_paints(text=text), paints)

    def test_long_numbers(self):
        for base in (2, 10, 36):
            text = ",".join(FIGURES[base - 1] * 160 for paint in range(6))
            self.assertEqual(read_paints(text, base), (base ** 160 - 1,) * 6)
            self.assertEqual(paints_text(read_paints(text, base), base), text)
        alone = "1" + "0" * 980 + ",0,0,0,0,0"
        self.assertEqual(read_paints(alone, 36)[0], 36 ** 980)
        self.assertEqual(paints_text(read_paints(alone, 36), 36), alone)
        self.assertEqual(len(paints_text(read_paints(alone, 36), 2)), (36 ** 980).bit_length() + 10)

    def test_texts_that_are_not_as_told(self):
        wrong = [
            "", ",", ",,,,,", "0", "0,0,0,0,0", "0,0,0,0,0,0,0", "0,0,0,0,0,", ",0,0,0,0,0", "0,0,,0,0,0", "00,0,0,0,0,0",
            "01,0,0,0,0,0", "0,0,0,0,0,00", "0,0,0,0,0,01", "-1,0,0,0,0,0", "+1,0,0,0,0,0", "-0,0,0,0,0,0", "0, 0,0,0,0,0",
            " 0,0,0,0,0,0", "0,0,0,0,0,0 ", "0,0,0,0,0,0\n", "0,0,0,0,0,0,", "0 0 0 0 0 0", "(0,0,0,0,0,0)", "0x1,0,0,0,0,0",
            "1_0,0,0,0,0,0", "1.0,0,0,0,0,0", "1e1,0,0,0,0,0", "0;0;0;0;0;0", "~,0,0,0,0,0", "-", "none", "0" * 1000,
        ]
        for text in wrong:
            for base in (2, 10, 36):
                if not (base == 36 and text in ("1e1,0,0,0,0,0",)):
                    self.refuses(read_paints, text, base=base)
            self.refuses(read_paints, text)

    def test_figures_of_the_base_alone(self):
        for base in range(2, 37):
            for figure in FIGURES:
                for text in (f"0,0,{figure},0,0,0", f"1{figure},0,0,0,0,0", f"0,0,0,0,0,1{figure}1"):
                    if FIGURES.index(figure) < base:
                        self.assertEqual(paints_text(read_paints(text, base), base), text)
                    else:
                        self.refuses(read_paints, text, base=base)
                if figure.isalpha():
                    self.refuses(read_paints, f"0,0,{figure.upper()},0,0,0", base=base)

    def test_bent_texts(self):
        for base in (2, 10, 36):
            for bent in bent_texts("10,0,1,101,0,11", " ,0-+_\n1z"):
                self.only_there_and_back(
                    lambda text: read_paints(text, base), lambda paints: paints_text(paints, base), bent,
                )

    def test_no_base(self):
        for base in NO_BASES:
            for asked in (
                lambda: paints_text((0,) * 6, base), lambda: paints_text(paints=(0,) * 6, base=base),
                lambda: paints_text(None, base), lambda: paints_text((-1,) * 6, base=base),
                lambda: read_paints("0,0,0,0,0,0", base), lambda: read_paints("", base),
                lambda: read_paints(text="none", base=base),
            ):
                with self.subTest(base=base):
                    with self.assertRaises(NoBase):
                        asked()

    def test_no_paints(self):
        for thing in helper.no_paints():
            with self.subTest(thing=thing):
                for base in (2, 10, 36):
                    with self.assertRaises(NoPaints):
                        paints_text(thing, base)
                with self.assertRaises(NoPaints):
                    paints_text(paints=thing)


class Turns(TextCase):
    def test_there_and_back(self):
        self.assertEqual(turn_text(STILL), "-")
        self.assertEqual(turn_text(turn=U), "u")
        for turn in helper.TURNS:
            self.assertEqual(turn_text(turn), TURN_TEXTS[turn])
            told = read_turn(turn_text(turn))
            self.assertIs(type(told), tuple)
            self.assertEqual(told, turn)
        self.assertEqual(read_turn(text="-"), STILL)

    def test_any_word(self):
        for length in range(1, 6):
            for letters in product("ufr", repeat=length):
                self.assertEqual(read_turn("".join(letters)), helper.slow_turn(letters))
        for word in ("u" * 1000, "ufr" * 333 + "f", "rf" * 500, "u" * 999):
            self.assertEqual(read_turn(word), helper.slow_turn(word))

    def test_texts_that_are_not_as_told(self):
        for text in ("", "--", "-u", "u-", " ", "u ", " u", "u f", "U", "F", "x", "ufx", "u\n", "\n", "0", "u,f", "u" * 1001,
                     "uf" * 501, "- ", " -", "-\n", "turn u", "~"):
            self.refuses(read_turn, text)

    def test_no_turn(self):
        for thing in helper.no_turns():
            with self.subTest(thing=thing):
                with self.assertRaises(NoTurn):
                    turn_text(thing)
                with self.assertRaises(NoTurn):
                    turn_text(turn=thing)


class Pictures(TextCase):
    def test_of_some(self):
        self.assertEqual(picture((0, 1, 2, 3, 4, 5)), "  0\n4 2 5 3\n  1")
        self.assertEqual(picture((1, 22, 333, 4, 5, 6)), "    001\n005 333 006 004\n    022")
        self.assertEqual(picture(paints=(0,) * 6), "  0\n0 0 0 0\n  0")
        self.assertEqual(read_picture("  0\n4 2 5 3\n  1"), (0, 1, 2, 3, 4, 5))
        self.assertEqual(read_picture(text="   10\n00 01 02 03\n   00"), (10, 0, 1, 3, 0, 2))

    def test_there_and_back(self):
        for paints in helper.some_paints() + [(0, 9, 10, 99, 100, 7), (G, 0, 0, 0, 0, 0), (0, 0, 0, 0, 0, 10 ** 29)]:
            told = picture(paints)
            self.assertIs(type(told), str)
            self.assertEqual(told, slow_picture(paints))
            back = read_picture(told)
            self.assertIs(type(back), tuple)
            self.assertEqual(back, paints)

    def test_each_paint_the_longest(self):
        for side in range(6):
            paints = tuple(12345 if place == side else place for place in range(6))
            self.assertEqual(picture(paints), slow_picture(paints))
            self.assertEqual(read_picture(picture(paints)), paints)

    def test_long_pictures(self):
        paints = tuple(10 ** 120 + side for side in range(6))
        self.assertEqual(read_picture(slow_picture(paints)), paints)
        self.assertEqual(picture(paints), slow_picture(paints))

    def test_texts_that_are_not_as_told(self):
        for text in (
            "", "\n\n", "\n", "  0", "  0\n4 2 5 3", "  0\n4 2 5 3\n  1\n", "\n  0\n4 2 5 3\n  1", "  0\n4 2 5 3\n  1 ",
            " 0\n4 2 5 3\n  1", "   0\n4 2 5 3\n  1", "  0\n4 2 5 3\n 1", "  0\n4 2 5 3\n   1", "0\n4 2 5 3\n1",
            "  0 \n4 2 5 3\n  1", "  0\n4 2 5 3 \n  1", "  0\n 4 2 5 3\n  1", "  0\n4  2 5 3\n  1", "  0\n4 2 5\n  1",
            "  0\n4 2 5 3 6\n  1", "  0\n4,2,5,3\n  1", "  00\n4 2 5 3\n  1", "   00\n04 02 05 03\n   01",
            "  0\n04 2 5 3\n  1", "   0\n4 2 5 3\n   1", "  10\n4 2 5 3\n  1", "   10\n4 2 5 3\n   1",
            "   10\n04 02 05 3\n   01", "   10\n04 02 05 03\n  01", "   10\n04 02 05 03\n   1", "  a\n4 2 5 3\n  1",
            "  -\n4 2 5 3\n  1", "  0\n4 2 +5 3\n  1", "  0\n-4 2 5 3\n  1", "  0\n4 2 5 3\n  A", "  \n4 2 5 3\n  1",
            "  0\n   \n  1", " \n   \n ", "0,1,2,3,4,5", "  0\n4 2 5 _\n  1", "  0\n4 2 5 3\n  1\n\n", "\t0\n4 2 5 3\n\t1",
        ):
            self.refuses(read_picture, text)

    def test_bent_texts(self):
        seen = set()
        for paints in ((0, 1, 2, 3, 4, 5), (10, 1, 2, 3, 4, 5), (7, 7, 77, 0, 0, 0)):
            for bent in bent_texts(slow_picture(paints), " 09-,\na"):
                seen.add(self.only_there_and_back(read_picture, picture, bent))
        self.assertEqual(seen, {True, False})

    def test_no_paints(self):
        for thing in helper.no_paints():
            with self.subTest(thing=thing):
                with self.assertRaises(NoPaints):
                    picture(thing)
                with self.assertRaises(NoPaints):
                    picture(paints=thing)


NOUGHTS = "0,0,0,0,0,0"
LINES = ("1 x 0,0,0,0,0,0", "2 x 0,0,0,0,0,1", "3 x 0,1,2,3,4,5", "94 x 0,0,0,0,1,1")


def some_boxes():
    some = helper.some_paints()
    return [
        [], [Cube()], [Cube()] * 100, [Cube((1, 0, 0, 0, 0, 0)), Cube((0, 1, 0, 0, 0, 0)), Cube()], [Cube(some[90]), Cube()],
        [Cube((5, 4, 3, 2, 1, 0)), Cube(), Cube((0, 1, 2, 3, 4, 5)), Cube((0, 1, 2, 3, 5, 4)), Cube()],
        [Cube(paints) for paints in some[:100]], [Cube(paints) for paints in some[-100:]], [Cube((G, 0, G, 1, 2, 3))] * 7,
        [Cube((0, 0, 0, 0, 0, number)) for number in range(100)], [Cube(paints) for paints in some[40:90]] * 2,
    ]


class Boxes(TextCase):
    def test_of_some(self):
        self.assertEqual(box_text([]), "")
        self.assertEqual(box_text([Cube()]), "1 x 0,0,0,0,0,0")
        three = [Cube((1, 0, 0, 0, 0, 0)), Cube(), Cube((0, 0, 1, 0, 0, 0))]
        self.assertEqual(box_text(three), "2 x 0,0,0,0,0,1\n1 x 0,0,0,0,0,0")
        self.assertEqual(box_text(cubes=[Cube((0, 1, 2, 3, 4, 5)), Cube((0, 1, 2, 3, 5, 4))]), "1 x 0,1,2,3,4,5\n1 x 0,1,2,3,5,4")
        self.assertEqual(box_text([Cube()] * 100), "100 x 0,0,0,0,0,0")

    def test_against_a_slow_way(self):
        for box in some_boxes():
            least = [min(helper.slow_looks(cube.paints())) for cube in box]
            unlike = [paints for place, paints in enumerate(least) if paints not in least[:place]]
            lines = [f"{least.count(paints)} x {','.join(map(str, paints))}" for paints in unlike]
            self.assertEqual(box_text(box), "\n".join(lines))
            self.assertIs(type(box_text(box)), str)

    def test_there_and_back(self):
        for box in some_boxes():
            text = box_text(box)
            told = read_box(text)
            self.assertIs(type(told), list)
            self.assertEqual(len(told), len(box))
            self.assertEqual(box_text(told), text)
            for cube in told:
                self.assertIsInstance(cube, Cube)
                self.assertEqual(cube.paints(), min(helper.slow_looks(cube.paints())))
                self.assertEqual(sum(cube == other for other in told), sum(cube == other for other in box))

    def test_line_by_line_each_so_many_times(self):
        told = read_box(text="2 x 0,1,2,3,4,5\n1 x 0,0,0,0,0,0\n3 x 0,0,0,0,0,12")
        paints = [(0, 1, 2, 3, 4, 5)] * 2 + [(0,) * 6] + [(0, 0, 0, 0, 0, 12)] * 3
        self.assertEqual([cube.paints() for cube in told], paints)

    def test_of_the_text_without_signs(self):
        self.assertEqual(read_box(""), [])

    def test_a_hundred_and_one_more(self):
        self.assertEqual(len(read_box("\n".join(LINES))), 100)
        self.assertEqual(len(read_box("100 x " + NOUGHTS)), 100)
        for many in (101, 102, 1000, G, 10 ** 999):
            self.refuses(read_box, f"{many} x {NOUGHTS}")
            self.refuses(read_box, f"1 x 0,0,0,0,0,1\n{many - 1} x {NOUGHTS}\n1 x 0,1,2,3,4,5", 1)
        self.refuses(read_box, f"1 x 0,0,0,0,0,1\n99 x {NOUGHTS}\n1 x 0,1,2,3,4,5", 2)
        for row in range(1, 4):
            lines = list(LINES)
            lines[row] = "98 x " + lines[row].split(" ")[2]
            self.refuses(read_box, "\n".join(lines), 2 if row == 1 else row)
        self.refuses(read_box, "\n".join(LINES + ("1 x 0,0,0,0,0,9",)), 4)
        lines = [f"1 x 0,0,0,0,0,{number}" for number in range(101)]
        self.assertEqual(len(read_box("\n".join(lines[:100]))), 100)
        self.refuses(read_box, "\n".join(lines), 100)

    def test_rows(self):
        wrong = [
            "", " ", "x", "1", "1 x", "1 x ", "1 " + NOUGHTS, NOUGHTS, "1x" + NOUGHTS, "1 x" + NOUGHTS, "1x " + NOUGHTS,
            "1 X " + NOUGHTS, "1 * " + NOUGHTS, "1  x " + NOUGHTS, "1 x  " + NOUGHTS, " 1 x " + NOUGHTS, "1 x 0,0,0,0,0,0 ",
            "x 1 " + NOUGHTS, "0 x 0,0,0,0,0,9", "00 x 0,0,0,0,0,9", "01 x 0,0,0,0,0,9", "-1 x 0,0,0,0,0,9",
            "+1 x 0,0,0,0,0,9", "1.0 x 0,0,0,0,0,9", "a x 0,0,0,0,0,9", " x 0,0,0,0,0,9", "1 x 0,0,0,0,9", "1 x 0,0,0,0,0,0,9",
            "1 x 0,0,0,0,0,09", "1 x 0,0,0,0,0,a", "1 x 0 0 0 0 0 9", "1 x 0,0,0,0,9,0", "1 x 9,0,0,0,0,0", "1 x 1,0,2,3,4,5",
            "1 x 5,4,3,2,1,0", "1 x (0,0,0,0,0,9)", "1 x 0,0,0,0,0,9 x", "101 x 0,0,0,0,0,9", "1 x -1,0,0,0,0,0",
        ]
        right = ["1 x 0,0,0,0,0,3", "2 x 0,0,0,0,3,3", "1 x 0,1,2,3,4,5"]
        for line in wrong:
            for row in range(4):
                lines = right[:row] + [line] + right[row:]
                if lines != [""]:
                    self.refuses(read_box, "\n".join(lines), row)
            if line != "":
                self.refuses(read_box, line)

    def test_the_first_line_that_is_not_so(self):
        self.refuses(read_box, "1 x 0,0,0,0,0,3\n0 x 0,0,0,0,0,0\nnone", 1)
        self.refuses(read_box, "none\n0 x 0,0,0,0,0,0", 0)
        self.refuses(read_box, "99 x 0,0,0,0,0,3\n2 x 0,0,0,0,0,0\nnone", 1)

    def test_a_line_end_at_the_end(self):
        self.refuses(read_box, "1 x 0,0,0,0,0,0\n", 1)
        self.refuses(read_box, "\n", 0)
        self.refuses(read_box, "\n1 x 0,0,0,0,0,0", 0)
        self.refuses(read_box, "1 x 0,0,0,0,0,0\n\n1 x 0,0,0,0,0,1", 1)

    def test_paints_that_a_line_ahead_has(self):
        self.refuses(read_box, "1 x 0,0,0,0,0,0\n1 x 0,0,0,0,0,0", 1)
        self.refuses(read_box, "1 x 0,0,0,0,0,0\n1 x 0,0,0,0,0,1\n2 x 0,0,0,0,0,0", 2)

    def test_bent_texts(self):
        seen = set()
        for bent in bent_texts("12 x 0,0,1,2,3,10\n1 x 0,0,0,0,0,1", " x0,9\n-"):
            try:
                told = read_box(bent)
                self.assertEqual(box_text(told), bent)
                seen.add(None)
            except NoText as refusal:
                seen.add(refusal.row)
        self.assertEqual(seen, {None, 0, 1, 2})


def case_of(leaf, deep):
    """So many cases within one another, the other trees of each a leaf."""
    tree = leaf
    for level in range(deep):
        tree = ("case", [("less", 1, 4)] * (level % 6) + [tree] + [("more", 0, 0)] * (5 - level % 6))
    return tree


def full_tree(deep):
    return ("case", [full_tree(deep - 1) for branch in range(6)]) if deep else ("more", 1, 2)


def slow_tree_text(tree):
    if tree[0] == "case":
        return f"[{''.join(map(slow_tree_text, tree[1]))}]"
    return {"more": "m", "less": "l"}[tree[0]] + str(tree[1]) + str(tree[2])


def slow_paper_text(paper):
    word = paper[0]
    if word == "turn":
        return f"turn {TURN_TEXTS[paper[1]]}"
    if word == "pair":
        return f"pair {paper[1]} {paper[2]}"
    if word == "tower":
        return "tower" + "".join(f" {TURN_TEXTS[turn]}" for turn in paper[1])
    return "twin" if word == "twin" else f"none {slow_tree_text(paper[1])}"


LEAVES = [(word, lap, paint) for word in ("more", "less") for lap in (0, 1) for paint in range(5)]


def some_papers():
    papers = [("twin",), ("pair", 0, 0), ("pair", 0, 1), ("pair", 9, 10), ("pair", G, G), ("pair", 0, G)]
    papers += [("turn", turn) for turn in helper.TURNS] + [("tower", [turn]) for turn in helper.TURNS]
    papers += [("tower", helper.TURNS[place:place + many]) for many in range(1, 6) for place in range(0, 19, 3)]
    papers += [("tower", [STILL] * many) for many in range(1, 6)] + [("none", leaf) for leaf in LEAVES]
    papers += [("none", ("case", [leaf] * 6)) for leaf in LEAVES] + [("none", ("case", LEAVES[7:13]))]
    papers += [("none", case_of(("less", 0, 3), deep)) for deep in range(6)]
    return papers + [("none", full_tree(deep)) for deep in range(4)]


def no_papers():
    """Things that have no such form."""
    leaf = ("more", 0, 0)
    words = [
        (), ("",), ("twins",), ("twin", None), ("twin", "twin"), ["twin"], "twin", (("twin",),), (["twin"],), ("turn",),
        ("turn", U, F), ["turn", U], ("turns", U), ("Turn", U), ("pair",), ("pair", 1), ("pair", (0, 1)), ("pair", 0, 1, 2),
        ["pair", 0, 1], ("pairs", 0, 1), ("tower",), ("tower", [U], [F]), ["tower", [U]], ("towers", [U]), ("none",),
        ("none", leaf, leaf), ["none", leaf], ("nones", leaf), ("None", leaf), (None, leaf), ("case", leaf),
        ("case", [leaf] * 6), leaf, ("twin", 0, 1), ("turn", 0, 1), ("pair", U),
        ("tower", 0, 1), ("none", 0, 1), ("turn", [U]), ("tower", U), ("none", [leaf]), ("none", U), ("tower", leaf),
    ]
    pairs = [(1, 0), (-1, 0), (0, -1), (-2, -1), (G, G - 1), (True, 1), (0, True), (False, 0)]
    pairs += [("0", "1"), (None, None), ((), ()), ([0], [1])]
    words += [("pair", one, other) for one, other in pairs]
    words += [("turn", thing) for thing in helper.no_turns()]
    # One of those things is a list of one turn.
    words += [("tower", thing) for thing in helper.anything() if thing != [STILL]]
    words += [("tower", [thing]) for thing in helper.no_turns()] + [("tower", [U, thing, F]) for thing in helper.no_turns()]
    words += [("tower", [U] * many) for many in (0, 6, 7, 100)] + [("tower", (U, F)), ("tower", ()), ("tower", [[U]])]
    return words + [("none", tree) for tree in no_trees()]


def no_trees():
    leaf = ("more", 0, 0)
    wrong = [
        ("more", 2, 0), ("more", -1, 0), ("more", 0, 5), ("more", 0, -1), ("less", 0, 5), ("less", 2, 4), ("more", 0, G),
        ("more", True, 0), ("more", 0, True), ("less", False, 0), ("less", 0, False), ("more", None, 0), ("more", 0, None),
        ("more", "0", "0"), ("more", 0), ("more",), ("more", 0, 0, 0), ("less", 0), ["more", 0, 0], ("More", 0, 0), ("m", 0, 0),
        ("mess", 0, 0), ("case", 0, 0), (None, 0, 0), (["more"], 0, 0), ("more", [0], 0), ("more", 0, (0,)), "m00", "[m00]",
        ("case",), ("case", []), ("case", [leaf] * 5), ("case", [leaf] * 7), ("case", (leaf,) * 6), ("case", [leaf] * 6, 0),
        ["case", [leaf] * 6], ("Case", [leaf] * 6), ("more", [leaf] * 6), ("case", leaf), ("case", None), ("case", "m00" * 6),
    ]
    wrong += helper.anything()
    inner = [("case", [leaf] * place + [thing] + [leaf] * (5 - place)) for thing in wrong for place in (0, 5)]
    deep = [case_of(leaf, 6), case_of(leaf, 7), case_of(("more", 0, 5), 5), case_of(("case", []), 4), case_of(None, 5)]
    return wrong + inner + deep


class Papers(TextCase):
    def test_of_some(self):
        self.assertEqual(paper_text(("turn", STILL)), "turn -")
        self.assertEqual(paper_text(("turn", (5, 4, 0, 1, 3, 2))), "turn uf")
        self.assertEqual(paper_text(("pair", 3, 12)), "pair 3 12")
        self.assertEqual(paper_text(("twin",)), "twin")
        self.assertEqual(paper_text(("tower", [U, STILL, F])), "tower u - f")
        self.assertEqual(paper_text(("none", ("more", 0, 4))), "none m04")
        self.assertEqual(
            paper_text(paper=("none", ("case", [("less", 1, 2)] * 5 + [("case", [("more", 0, 3)] * 6)]))),
            "none [l12l12l12l12l12[m03m03m03m03m03m03]]",
        )

    def test_there_and_back(self):
        for paper in some_papers():
            text = paper_text(paper)
            self.assertIs(type(text), str)
            self.assertEqual(text, slow_paper_text(paper))
            self.assertEqual(repr(read_paper(text)), repr(paper))
            self.assertEqual(repr(read_paper(text=text)), repr(paper))

    def test_of_told_towers(self):
        draw = helper.chances(32)
        seen = set()
        for trial in range(60):
            many = 1 + draw(5)
            paper = tower(helper.drawn_cubes(draw, many, many))
            seen.add(paper[0])
            self.assertEqual(paper_text(paper), slow_paper_text(paper))
            self.assertEqual(read_paper(paper_text(paper)), paper)
        self.assertEqual(seen, {"tower", "none"})

    def test_what_has_no_such_form(self):
        for thing in helper.anything() + no_papers():
            kept = repr(thing)
            with self.subTest(thing=thing):
                with self.assertRaises(NoPaper):
                    paper_text(thing)
                with self.assertRaises(NoPaper):
                    paper_text(paper=thing)
                self.assertEqual(repr(thing), kept)

    def test_cases_within_one_another(self):
        for deep in range(6):
            for branch in range(6):
                leaves = [("more", 0, 0)] * 5
                tree = ("less", 1, 4)
                text = "l14"
                for level in range(deep):
                    tree = ("case", leaves[:branch] + [tree] + leaves[branch:])
                    text = "[" + "m00" * branch + text + "m00" * (5 - branch) + "]"
                self.assertEqual(paper_text(("none", tree)), "none " + text)
                self.assertEqual(read_paper("none " + text), ("none", tree))
                six = ("case", leaves[:branch] + [tree] + leaves[branch:])
                if deep == 5:
                    with self.assertRaises(NoPaper):
                        paper_text(("none", six))
                    self.refuses(read_paper, "none [" + "m00" * branch + text + "m00" * (5 - branch) + "]")

    def test_the_largest_trees_soon(self):
        with helper.soon(self):
            largest = ("none", full_tree(5))
            text = paper_text(largest)
            self.assertEqual(text, slow_paper_text(largest))
            self.assertEqual(read_paper(text), largest)
            self.refuses(read_paper, text[:-1])
            self.refuses(read_paper, text + "]")
            self.refuses(read_paper, "none " + "[" * 20000)
            self.refuses(read_paper, "none " + "m00" * 20000)
            # One list at many places, as deep as a thing may be.
            shared = [None] * 6
            for level in range(6):
                shared = [("case", shared)] * 6
            with self.assertRaises(NoPaper):
                paper_text(("none", ("case", shared)))

    def test_turns_by_any_words(self):
        self.assertEqual(read_paper("turn uuuuf"), ("turn", F))
        self.assertEqual(read_paper("turn uuuu"), ("turn", STILL))
        self.assertEqual(read_paper("tower uuuu - fu" + " f" * 2), ("tower", [STILL, STILL, helper.slow_turn("fu"), F, F]))
        self.assertEqual(read_paper("turn " + "uf" * 500), ("turn", helper.slow_turn("uf" * 500)))
        self.refuses(read_paper, "turn " + "u" * 1001)
        self.refuses(read_paper, "tower u " + "u" * 1001)

    def test_texts_that_are_not_as_told(self):
        for text in (
            "", " ", "none", "none ", "turn", "turn ", "tower", "tower ", "pair", "twins", "twin ", " twin", "Twin", "twin\n",
            "twin twin", "turn  u", "turn u ", " turn u", "turn u f", "turn x", "turn U", "turn --", "turn -u", "turn\nu",
            "turn u\n", "turns u", "turn (0,1,2,3,4,5)", "pair 0", "pair 0 ", "pair  0", "pair 0  0", "pair 1 0", "pair 0 1 2",
            "pair 00 1", "pair 0 01", "pair -1 0", "pair 0 +1", "pair a b", "pair 0,1", "pair 10 9", "pairs 0 1", "pair 0 1 ",
            "tower u  f", "tower u f ", "tower x", "tower u x", "tower u,f", "tower - - - - - -", "tower u u u u u u u",
            "towers u", "tower [u]", "none m", "none m0", "none m00 ", "none m000", "none m00m00", "none m20", "none m05",
            "none l05", "none x00", "none M00", "none m-0", "none ma0", "none m0a", "none 00m", "none []", "none [m00]",
            "none [" + "m00" * 5 + "]", "none [" + "m00" * 7 + "]", "none [" + "m00" * 6, "none " + "m00" * 6 + "]",
            "none [" + "m00" * 6 + "]]", "none [" + "m00 " * 6 + "]", "none [" + "m00," * 6 + "]", "none (" + "m00" * 6 + ")",
            "none [" + "m00" * 6 + "]m00", "none [[" + "m00" * 6 + "]]", "none m00\n", "none\nm00", "m00", "[m00m00m00m00m00m00]",
            "none [" + "m00" * 5 + "m0]", "none [" + "m00" * 5 + "m05]", "case m00", "more 0 0", "none more 0 0", "side 0",
        ):
            self.refuses(read_paper, text)

    def test_bent_texts(self):
        for paper in (("turn", U), ("tower", [U, STILL, F]), ("twin",), ("pair", 10, 11), ("none", case_of(("less", 1, 4), 2))):
            seen = set()
            for bent in bent_texts(slow_paper_text(paper), " 0145mlf-[]\nx"):
                try:
                    told = read_paper(bent)
                    self.assertEqual(paper_text(told) == bent, slow_paper_text(told) == bent)
                    self.assertEqual(read_paper(paper_text(told)), told)
                    # Only a turn has several texts.
                    self.assertTrue(paper_text(told) == bent or told[0] in ("turn", "tower"))
                    seen.add(told[0])
                except NoText as refusal:
                    self.assertEqual(refusal.row, 0)
                    seen.add(None)
            self.assertIn(None, seen)


class AsTold(unittest.TestCase):
    def test_told_lists_are_the_askers_own(self):
        for paper in some_papers()[::3]:
            helper.check_own(self, lambda: read_paper(slow_paper_text(paper)))

    def test_read_cubes_are_new_ones(self):
        text = "3 x 0,0,0,0,0,0\n2 x 0,0,0,0,0,1"
        first, second = read_box(text), read_box(text)
        self.assertIsNot(first, second)
        self.assertEqual(len({id(cube) for cube in first + second}), 10)
        first.clear()
        self.assertEqual(len(read_box(text)), 5)

    def test_what_is_handed_in_stays(self):
        for box in some_boxes():
            kept = list(box)
            shown = repr(box)
            box_text(box)
            self.assertTrue(all(one is other for one, other in zip(box, kept)))
            self.assertEqual((len(box), repr(box)), (len(kept), shown))
        for paper in some_papers()[::3] + no_papers()[::7]:
            helper.check_left(self, paper_text, paper)

    def test_a_paper_that_was_changed_is_looked_at_anew(self):
        paper = copy.deepcopy(("none", case_of(("less", 0, 1), 2)))
        text = paper_text(paper)
        paper[1][1][0] = ("more", 1, 1)
        self.assertNotEqual(paper_text(paper), text)
        paper[1][1].pop()
        with self.assertRaises(NoPaper):
            paper_text(paper)
