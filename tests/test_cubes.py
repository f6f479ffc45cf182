import copy
import unittest

from tests import helper
from thirtycubes.cubes import Cube
from thirtycubes.errors import NoPaints, NoTurn

SIX = (3, 11, 0, 5, 40, 7)
NOUGHTS = (0, 0, 0, 0, 0, 0)
U = (0, 1, 4, 5, 3, 2)


class Made(unittest.TestCase):
    def test_of_paints(self):
        for paints in helper.some_paints():
            told = Cube(paints).paints()
            self.assertIs(type(told), tuple)
            self.assertEqual(told, paints)

    def test_of_none_told_and_of_none(self):
        self.assertEqual(Cube().paints(), NOUGHTS)
        self.assertEqual(Cube(None).paints(), NOUGHTS)
        self.assertEqual(Cube(paints=None).paints(), NOUGHTS)

    def test_by_place_and_by_name_alike(self):
        self.assertEqual(Cube(paints=SIX).paints(), Cube(SIX).paints())
        self.assertEqual(Cube(SIX).turned(turn=U).paints(), Cube(SIX).turned(U).paints())

    def test_refuses_what_are_no_paints(self):
        for thing in helper.no_paints():
            if thing is None:
                continue
            kept = copy.deepcopy(thing)
            with self.subTest(thing=thing):
                with self.assertRaises(NoPaints):
                    Cube(thing)
                with self.assertRaises(NoPaints):
                    Cube(paints=thing)
                self.assertEqual(repr(thing), repr(kept))

    def test_stays_as_it_is(self):
        cube = Cube(SIX)
        before = (cube.paints(), len(cube), str(cube), repr(cube))
        for turn in helper.TURNS:
            cube.turned(turn).turned(U).mirrored()
        cube.mirrored().turned(U)
        for thing in (None, Cube(), Cube(SIX), SIX):
            cube == thing
        with self.assertRaises(NoTurn):
            cube.turned(())
        self.assertEqual((cube.paints(), len(cube), str(cube), repr(cube)), before)
        self.assertEqual(cube.paints(), SIX)


class Turned(unittest.TestCase):
    def test_by_a_turn(self):
        for paints in (SIX, NOUGHTS, (1, 2, 1, 2, 0, 0)):
            for turn in helper.TURNS:
                told = Cube(paints).turned(turn)
                self.assertIsInstance(told, Cube)
                self.assertEqual(told.paints(), helper.slow_turned(paints, turn))

    def test_by_none_told_and_by_none(self):
        cube = Cube(SIX)
        for told in (cube.turned(), cube.turned(None), cube.turned(turn=None)):
            self.assertIsInstance(told, Cube)
            self.assertIsNot(told, cube)
            self.assertEqual(told.paints(), SIX)

    def test_refuses_what_is_no_turn(self):
        for thing in helper.no_turns():
            if thing is None:
                continue
            with self.subTest(thing=thing):
                with self.assertRaises(NoTurn):
                    Cube(SIX).turned(thing)
                with self.assertRaises(NoTurn):
                    Cube().turned(turn=thing)


class Mirrored(unittest.TestCase):
    def test_left_and_right_are_exchanged(self):
        for paints in helper.some_paints():
            cube = Cube(paints)
            told = cube.mirrored()
            self.assertIsInstance(told, Cube)
            self.assertIsNot(told, cube)
            self.assertEqual(told.paints(), tuple(paints[side] for side in (0, 1, 2, 3, 5, 4)))


class Equal(unittest.TestCase):
    def test_cubes_alike_by_turning(self):
        for turn in helper.TURNS:
            self.assertTrue(Cube(SIX) == Cube(helper.slow_turned(SIX, turn)))
            self.assertFalse(Cube(SIX) != Cube(helper.slow_turned(SIX, turn)))
        self.assertTrue(Cube() == Cube(NOUGHTS))

    def test_cubes_not_alike(self):
        for other in (NOUGHTS, (3, 11, 0, 5, 7, 40), (11, 3, 0, 5, 40, 7), (3, 11, 0, 5, 40, 8)):
            self.assertFalse(Cube(SIX) == Cube(other))
            self.assertTrue(Cube(SIX) != Cube(other))
            self.assertFalse(Cube(other) == Cube(SIX))

    def test_of_six_unlike_paints_the_mirrored_one_is_another(self):
        self.assertFalse(Cube(SIX) == Cube(SIX).mirrored())
        self.assertTrue(Cube(SIX) == Cube(SIX).mirrored().mirrored())
        self.assertTrue(Cube((0, 0, 1, 2, 3, 4)) == Cube((0, 0, 1, 2, 3, 4)).mirrored())

    def test_equal_just_where_a_turn_leads_there(self):
        some = [paints for paints in helper.some_paints() if sum(paints) < 20][::3]
        for one in some:
            reached = helper.slow_looks(one)
            for other in some:
                self.assertIs(Cube(one) == Cube(other), other in reached)

    def test_a_cube_and_anything_else(self):
        others = helper.anything() + [SIX, list(SIX), str(Cube(SIX)), repr(Cube(SIX)), NOUGHTS, "0 0 0 0 0 0"]
        for cube in (Cube(SIX), Cube()):
            for other in others:
                with self.subTest(cube=cube, other=other):
                    self.assertIs(cube == other, False)
                    self.assertIs(other == cube, False)
                    self.assertIs(cube != other, True)
                    self.assertIs(other != cube, True)


class Shown(unittest.TestCase):
    def test_len_is_how_many_unlike_paints(self):
        self.assertEqual(len(Cube()), 1)
        self.assertEqual(len(Cube(SIX)), 6)
        self.assertEqual(len(Cube((1, 2, 1, 2, 1, 2))), 2)
        for paints in helper.some_paints():
            unlike = [paint for place, paint in enumerate(paints) if paint not in paints[:place]]
            self.assertEqual(len(Cube(paints)), len(unlike))

    def test_str_is_the_least_paints(self):
        self.assertEqual(str(Cube()), "0 0 0 0 0 0")
        self.assertEqual(str(Cube((1, 0, 0, 0, 0, 0))), "0 0 0 0 0 1")
        self.assertEqual(str(Cube(SIX)), "0 5 3 11 7 40")
        for paints in helper.some_paints():
            least = min(helper.slow_looks(paints))
            self.assertEqual(str(Cube(paints)), "%d %d %d %d %d %d" % least)

    def test_repr_is_the_own_paints(self):
        self.assertEqual(repr(Cube()), "Cube((0, 0, 0, 0, 0, 0))")
        self.assertEqual(repr(Cube(SIX)), "Cube((3, 11, 0, 5, 40, 7))")
        self.assertEqual(repr(Cube(SIX).turned(U)), "Cube((3, 11, 7, 40, 0, 5))")
        for paints in helper.some_paints():
            self.assertEqual(repr(Cube(paints)), "Cube((%d, %d, %d, %d, %d, %d))" % paints)
