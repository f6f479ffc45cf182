"""What holds over the whole program: points 2 and 3."""

import copy
import unittest
from itertools import product

from tests import helper
from tests.test_language import ARGUMENTS, CLASS_METHODS
from thirtycubes import errors
from thirtycubes.alike import alike, alike_judged, hand_of, pairs_of
from thirtycubes.blocks import block_judged, blocks, eight_of
from thirtycubes.counts import all_cubes, cube_of, how_many, how_many_with, number_of
from thirtycubes.cubes import Cube
from thirtycubes.paints import is_paints, least_paints, leaving, looks, mirrored, turned
from thirtycubes.rows import row_judged, row_of
from thirtycubes.shelf import Shelf
from thirtycubes.texts import (
    box_text, paints_text, paper_text, picture, read_box, read_paints, read_paper, read_picture, read_turn, turn_text,
)
from thirtycubes.thirty import Thirty, are_six, corners_of
from thirtycubes.towers import tower, tower_judged
from thirtycubes.turns import is_turn, put_together, times_of, turn_of, turned_back, turns, word_of

G = helper.GREAT
U = (0, 1, 4, 5, 3, 2)
SIX = (0, 1, 2, 3, 4, 5)
PAINTS = (3, 0, 1, 1, G, 2)
TWO = [(0, 0, 0, 1, 1, 0), (1, 1, 1, 0, 0, 1)]
BARRED = [(0, 0, 0, 0, 0, 0), (0, 0, 0, 0, 0, 1)]
CUBE = Cube(PAINTS)
THIRTY = Thirty(SIX)
BLOCK = blocks(THIRTY, 7)[0]
FULL = list(range(30))
CHANGE = [5, 4, 3, 2, 1, 0]

# Each function and method of the interface, with right things by their names.
CALLS = [
    (is_turn, {"thing": [U]}), (turns, {}), (put_together, {"one": U, "other": SIX}), (turned_back, {"turn": U}),
    (turn_of, {"word": "ufr"}), (times_of, {"turn": U}), (word_of, {"turn": U}),
    (is_paints, {"thing": [PAINTS]}), (turned, {"paints": PAINTS, "turn": U}), (least_paints, {"paints": PAINTS}),
    (mirrored, {"paints": PAINTS}), (leaving, {"paints": (0,) * 6}), (looks, {"paints": PAINTS}),
    (Cube, {"paints": PAINTS}), (CUBE.paints, {}), (CUBE.turned, {"turn": U}), (CUBE.mirrored, {}),
    (pairs_of, {"paints": PAINTS}), (hand_of, {"paints": SIX}), (alike, {"one": PAINTS, "other": SIX}),
    (alike_judged, {"one": PAINTS, "other": SIX, "paper": ("pair", [0], 1)}),
    (how_many, {"palette": 3}), (how_many_with, {"counts": [1, 2, 3, 0]}), (all_cubes, {"palette": 3}),
    (number_of, {"palette": 2, "paints": (1, 0, 0, 0, 0, 0)}), (cube_of, {"palette": 2, "number": 5}),
    (row_of, {"cubes": TWO * 2, "ring": True}), (row_of, {"cubes": TWO, "ring": False}),
    (row_judged, {"cubes": TWO, "thing": [(0, SIX), (1, SIX)], "ring": True}),
    (tower, {"cubes": TWO}), (tower, {"cubes": BARRED}), (tower_judged, {"cubes": TWO, "paper": ("tower", [U, U])}),
    (tower_judged, {"cubes": BARRED, "paper": tower(BARRED)}),
    (are_six, {"thing": [SIX]}), (corners_of, {"paints": PAINTS}), (Thirty, {"six": SIX}), (THIRTY.cubes, {}),
    (THIRTY.number, {"paints": (1, 0, 2, 3, 4, 5)}), (THIRTY.twin, {"number": 3}), (THIRTY.shared, {"number": 3, "other": 4}),
    (THIRTY.shared, {"number": 9, "other": 9}), (THIRTY.lots, {}), (THIRTY.table, {}),
    (THIRTY.is_table, {"thing": THIRTY.table()}),
    (THIRTY.place, {"number": 29}), (THIRTY.changed, {"number": 2, "change": CHANGE}), (THIRTY.rows_changed, {"change": CHANGE}),
    (block_judged, {"thirty": THIRTY, "number": 7, "block": BLOCK, "stock": FULL}),
    (block_judged, {"thirty": THIRTY, "number": 7, "block": BLOCK, "stock": [0, 3]}),
    (blocks, {"thirty": THIRTY, "number": 7, "stock": FULL}), (eight_of, {"thirty": THIRTY, "number": 7}),
    (paints_text, {"paints": PAINTS, "base": 7}), (read_paints, {"text": "a,b,0,1,2,10", "base": 13}), (turn_text, {"turn": U}),
    (read_turn, {"text": "uuu"}), (picture, {"paints": PAINTS}), (read_picture, {"text": picture(PAINTS)}),
    (box_text, {"cubes": [CUBE, Cube(), CUBE]}), (read_box, {"text": "2 x 0,0,0,0,0,1\n1 x 0,0,0,0,0,0"}),
    (paper_text, {"paper": tower(BARRED)}), (paper_text, {"paper": ("tower", [U, SIX])}),
    (read_paper, {"text": "none [m00m00m00m00m00m00]"}), (read_paper, {"text": "tower u - f"}),
]

DEFAULTS = [
    (Cube, {}, {"paints": (0,) * 6}), (CUBE.turned, {}, {"turn": SIX}), (Cube, {}, {"paints": None}),
    (CUBE.turned, {}, {"turn": None}), (how_many, {}, {"palette": 6}), (all_cubes, {}, {"palette": 2}),
    (row_of, {"cubes": TWO}, {"ring": False}), (row_judged, {"cubes": TWO, "thing": [(0, SIX), (1, SIX)]}, {"ring": False}),
    (blocks, {"thirty": THIRTY, "number": 3}, {"stock": None}),
    (blocks, {"thirty": THIRTY, "number": 3}, {"stock": [number for number in FULL if number != 3]}),
    (block_judged, {"thirty": THIRTY, "number": 7, "block": BLOCK}, {"stock": None}),
    (paints_text, {"paints": PAINTS}, {"base": 10}), (read_paints, {"text": "10,0,1,2,3,4"}, {"base": 10}),
]

# What is refused, where several refusals are due, with the first of them.
ORDER = [
    (lambda: turned(None, None), "NoPaints"), (lambda: turned((0,) * 5, U), "NoPaints"),
    (lambda: turned(PAINTS, PAINTS), "NoTurn"),
    (lambda: alike_judged(None, None, None), "NoPaints"), (lambda: alike_judged(PAINTS, None, None), "NoPaints"),
    (lambda: number_of(-1, None), "NoPalette"), (lambda: number_of(5, (9,) * 6), "NoPalette"),
    (lambda: number_of(0, None), "NoPaints"), (lambda: number_of(1, (1,) * 6), "NoFit"),
    (lambda: cube_of(5, -1), "NoPalette"), (lambda: cube_of(4, -1), "NoNumber"),
    (lambda: row_judged([], None), "NoCubes"), (lambda: tower_judged([(1,) * 6], None), "NoCubes"),
    (lambda: THIRTY.number(None), "NoPaints"), (lambda: THIRTY.number((6,) * 6), "NoCube"),
    (lambda: THIRTY.changed(30, []), "NoCube"), (lambda: THIRTY.changed(29, []), "NoChange"),
    (lambda: blocks(THIRTY, 30, [30]), "NoCube"), (lambda: blocks(THIRTY, 29, [30]), "NoStock"),
    (lambda: block_judged(THIRTY, -1, None, [30]), "NoCube"), (lambda: block_judged(THIRTY, 0, None, [30]), "NoStock"),
    (lambda: paints_text(None, 1), "NoBase"), (lambda: paints_text(None, 2), "NoPaints"),
    (lambda: read_paints("", 37), "NoBase"), (lambda: read_paints("", 36), "NoText"),
    (lambda: Shelf().say("put A"), "NoRow"), (lambda: Shelf().say("put A x"), "NoName"),
    (lambda: Shelf().say("put a x"), "NoPaints"),
]


class AsTold(unittest.TestCase):
    def each(self, check):
        for function, named in CALLS:
            with self.subTest(asked=function.__qualname__, named=named):
                check(function, copy.deepcopy(named))

    def test_by_place_and_by_name_alike(self):
        def check(function, named):
            told = repr(function(*named.values()))
            self.assertEqual(repr(function(**named)), told)
            self.assertEqual(repr(function(**dict(reversed(named.items())))), told)

        self.each(check)

    def test_defaults(self):
        for function, named, more in DEFAULTS:
            with self.subTest(asked=function.__qualname__, more=more):
                self.assertEqual(repr(function(**named)), repr(function(**named, **more)))
                self.assertEqual(repr(function(*named.values())), repr(function(*named.values(), *more.values())))

    def test_what_is_handed_in_stays(self):
        def check(function, named):
            before = repr(named)
            function(**named)
            self.assertEqual(repr(named), before)

        self.each(check)

    def test_what_was_handed_in_and_changed_behind_changes_no_answer(self):
        def check(function, named):
            told = function(**named)
            kept = repr(told)
            helper.spoil(list(named.values()))
            self.assertEqual(repr(told), kept)

        self.each(check)

    def test_told_lists_are_the_askers_own_and_stand_at_one_place(self):
        def check(function, named):
            helper.check_own(self, lambda: function(**named))
            told = function(**named)
            given = {id(part) for part in helper.lists_in(list(named.values()))}
            self.assertEqual([part for part in helper.lists_in(told) if id(part) in given], [])

        self.each(check)

    def test_a_spoilt_answer_spoils_no_other_one(self):
        before = [repr(function(**copy.deepcopy(named))) for function, named in CALLS]
        self.each(lambda function, named: helper.spoil(function(**named)))
        self.assertEqual([repr(function(**copy.deepcopy(named))) for function, named in CALLS], before)

    def test_of_the_same_the_same_is_told_in_any_order(self):
        before = [repr(function(**copy.deepcopy(named))) for function, named in CALLS]
        behind = [repr(function(**copy.deepcopy(named))) for function, named in reversed(CALLS)]
        self.assertEqual(behind[::-1], before)

    def test_asked_anew_of_new_objects(self):
        for told, again in (
            (THIRTY.cubes(), Thirty(SIX).cubes()), (THIRTY.table(), Thirty(SIX).table()), (THIRTY.lots(), Thirty(SIX).lots()),
            (blocks(THIRTY, 5), blocks(Thirty(SIX), 5)), (CUBE.turned(U).paints(), Cube(PAINTS).turned(U).paints()),
        ):
            self.assertEqual(told, again)

    def test_soon(self):
        with helper.soon(self):
            for trial in range(5):
                for function, named in CALLS:
                    function(**named)


class Refused(unittest.TestCase):
    def test_the_first_refusal_in_the_order_told(self):
        for place, (asked, name) in enumerate(ORDER):
            with self.subTest(place=place, name=name):
                with self.assertRaises(getattr(errors, name)):
                    asked()

    def test_whole_numbers_are_no_truths(self):
        for truth in (True, False):
            wrong = (truth, 1 - truth, 2, 3, 4, 5)
            self.assertIs(is_turn(wrong), False)
            self.assertIs(is_paints(wrong), False)
            self.assertIs(are_six(wrong), False)
            for asked, name in (
                (lambda: Cube(wrong), "NoPaints"), (lambda: Cube(PAINTS).turned(wrong), "NoTurn"),
                (lambda: Thirty(wrong), "NoSix"),
                (lambda: corners_of(wrong), "NoPaints"), (lambda: THIRTY.number(wrong), "NoPaints"),
                (lambda: picture(wrong), "NoPaints"), (lambda: paints_text(wrong), "NoPaints"),
                (lambda: turn_text(wrong), "NoTurn"), (lambda: paper_text(("turn", wrong)), "NoPaper"),
                (lambda: paper_text(("pair", truth, 2)), "NoPaper"),
                (lambda: paper_text(("none", ("more", truth, 0))), "NoPaper"),
                (lambda: how_many_with([truth, 5, 1 - truth]), "NoCounts"), (lambda: row_of([wrong]), "NoCubes"),
                (lambda: tower([(truth,) * 6] * 2), "NoCubes"),
            ):
                with self.subTest(truth=truth, name=name):
                    with self.assertRaises(getattr(errors, name)):
                        asked()
            self.assertEqual(alike_judged(SIX, SIX, ("turn", wrong)), ("turn",))
            self.assertEqual(row_judged([SIX], [(truth, SIX)]), ("row",))
            self.assertEqual(tower_judged(BARRED, ("none", ("more", truth, 0))), ("tree", ()))
            self.assertEqual(block_judged(THIRTY, 0, [wrong] * 8), ("block",))

    def test_what_is_refused_is_any_refusal(self):
        for asked, name in ORDER:
            with self.assertRaises(errors.CubeError):
                asked()


class Promise(unittest.TestCase):
    def let_by(self, one, other):
        """The words of all papers of a right form that are let by."""
        paints = sorted(set(one + other))
        papers = [("turn", turn) for turn in helper.TURNS] + [("twin",)]
        papers += [("pair", low, high) for low, high in product(paints, repeat=2) if low <= high]
        return {paper[0] for paper in papers if alike_judged(one, other, paper) is None}

    def test_just_one_of_a_turn_and_a_bar(self):
        draw = helper.chances(3)
        seen = set()
        for trial in range(400):
            one = helper.drawn_cubes(draw, 1, 2 + draw(6))[0]
            other = helper.slow_turned(one, helper.TURNS[draw(24)]) if draw(2) else tuple(sorted(one, key=lambda paint: draw(9)))
            if draw(3) == 0:
                other = helper.slow_mirrored(other)
            words = self.let_by(one, other)
            self.assertEqual("turn" in words, not words & {"pair", "twin"}, (one, other))
            self.assertEqual("turn" in words, other in helper.slow_looks(one))
            self.assertEqual(Cube(one) == Cube(other), "turn" in words)
            paper = alike(one, other)
            self.assertIsNone(alike_judged(one, other, paper))
            self.assertIn(paper[0], words)
            seen.add(paper[0])
        self.assertEqual(seen, {"turn", "pair", "twin"})

    def test_of_all_six_paints(self):
        cubes = THIRTY.cubes()
        for one, other in product(cubes, repeat=2):
            words = self.let_by(one, other)
            self.assertEqual("turn" in words, one == other)
            self.assertEqual(len(words), 1)

    def test_as_many_cubes_as_told_each_with_its_number(self):
        for palette in range(5):
            cubes = all_cubes(palette)
            self.assertEqual(len(cubes), how_many(palette))
            self.assertEqual([number_of(palette, paints) for paints in cubes], list(range(len(cubes))))
            self.assertEqual([cube_of(palette, number) for number in range(len(cubes))], cubes)
        self.assertEqual(how_many_with([1] * 6), len(THIRTY))

    def test_a_tower_or_a_tree(self):
        draw = helper.chances(4)
        for trial in range(60):
            many = 1 + draw(4)
            cubes = helper.drawn_cubes(draw, many, many)
            paper = tower(cubes)
            self.assertIsNone(tower_judged(cubes, paper))
            self.assertEqual(read_paper(paper_text(paper)), paper)
            self.assertIsNone(tower_judged(cubes, read_paper(paper_text(paper))))

    def test_what_was_told_may_be_handed_in_again(self):
        for paints in helper.some_paints()[::5]:
            self.assertEqual(read_paints(paints_text(least_paints(paints), 36), 36), least_paints(paints))
            self.assertEqual(read_picture(picture(mirrored(paints))), mirrored(paints))
            for turn in leaving(paints):
                self.assertEqual(turned(paints, read_turn(turn_text(turn))), paints)
            shelf = Shelf()
            shelf.say(f"put a {paints_text(paints)}")
            shelf.say(f"put b {shelf.say('cube a')}")
            self.assertEqual(read_paper(shelf.say("how a b"))[0], "turn")
            self.assertEqual(read_paints(shelf.say("show b")), least_paints(paints))


class Interface(unittest.TestCase):
    def test_each_function_and_method_is_among_the_calls(self):
        called = {function.__qualname__ for function, named in CALLS}
        wanted = {name for functions in ARGUMENTS.values() for name in functions}
        for (stem, name), methods in CLASS_METHODS.items():
            # A shelf's answers are texts, and hang on what it was told ahead.
            if name != "Shelf":
                wanted |= {name} | {f"{name}.{method}" for method in methods if not method.startswith("__")}
        self.assertEqual(wanted - called, set())
