import copy
import unittest
from itertools import product

from tests import helper
from thirtycubes.errors import NoPaints, NoTurn
from thirtycubes.paints import is_paints, least_paints, leaving, looks, mirrored, turned

U = (0, 1, 4, 5, 3, 2)
SIX = (10, 11, 12, 13, 14, 15)


class IsPaints(unittest.TestCase):
    def test_of_paints(self):
        for paints in helper.some_paints() + helper.TURNS:
            with self.subTest(paints=paints):
                self.assertIs(is_paints(paints), True)

    def test_of_paints_of_thirty_figures(self):
        self.assertEqual(len(str(helper.GREAT)), 30)
        for place in range(6):
            paints = (0,) * place + (helper.GREAT,) + (0,) * (5 - place)
            self.assertIs(is_paints(paints), True)

    def test_of_what_are_none(self):
        for thing in helper.no_paints():
            with self.subTest(thing=thing):
                self.assertIs(is_paints(thing), False)

    def test_what_is_handed_in_stays(self):
        for thing in helper.no_paints():
            kept = copy.deepcopy(thing)
            is_paints(thing)
            self.assertEqual(repr(thing), repr(kept))


class Refused(unittest.TestCase):
    def test_each_function_refuses_what_are_no_paints(self):
        for thing in helper.no_paints():
            for asked in (least_paints, mirrored, leaving, looks):
                with self.subTest(asked=asked.__name__, thing=thing):
                    with self.assertRaises(NoPaints):
                        asked(thing)

    def test_turned_refuses_what_are_no_paints(self):
        for thing in helper.no_paints():
            with self.subTest(thing=thing):
                with self.assertRaises(NoPaints):
                    turned(thing, U)

    def test_turned_refuses_what_is_no_turn(self):
        for thing in helper.no_turns():
            with self.subTest(thing=thing):
                with self.assertRaises(NoTurn):
                    turned(SIX, thing)

    def test_no_paints_goes_ahead_of_no_turn(self):
        for thing in helper.no_paints():
            for turn in (None, (), thing, (1, 0, 2, 3, 4, 5), [0, 1, 2, 3, 4, 5]):
                with self.subTest(thing=thing, turn=turn):
                    with self.assertRaises(NoPaints):
                        turned(thing, turn)

    def test_what_is_refused_stays(self):
        for thing in helper.no_paints():
            kept = copy.deepcopy(thing)
            with self.assertRaises(NoPaints):
                turned(thing, thing)
            self.assertEqual(repr(thing), repr(kept))


class Turned(unittest.TestCase):
    def test_by_the_quarters(self):
        self.assertEqual(turned(SIX, (0, 1, 4, 5, 3, 2)), (10, 11, 15, 14, 12, 13))
        self.assertEqual(turned(SIX, (5, 4, 2, 3, 0, 1)), (14, 15, 12, 13, 11, 10))
        self.assertEqual(turned(SIX, (2, 3, 1, 0, 4, 5)), (13, 12, 10, 11, 14, 15))

    def test_what_is_at_a_side_comes_to_the_turns_side(self):
        for turn in helper.TURNS:
            told = turned(SIX, turn)
            self.assertIs(type(told), tuple)
            for side in range(6):
                self.assertEqual(told[turn[side]], SIX[side])

    def test_of_some_paints(self):
        for paints in helper.some_paints():
            for turn in helper.TURNS:
                self.assertEqual(turned(paints, turn), helper.slow_turned(paints, turn))


class LeastPaints(unittest.TestCase):
    def test_of_some(self):
        self.assertEqual(least_paints((1, 0, 0, 0, 0, 0)), (0, 0, 0, 0, 0, 1))
        self.assertEqual(least_paints((5, 4, 3, 2, 1, 0)), min(helper.slow_looks((5, 4, 3, 2, 1, 0))))
        self.assertEqual(least_paints((7, 7, 7, 7, 7, 7)), (7, 7, 7, 7, 7, 7))

    def test_numbers_are_not_compared_as_texts(self):
        self.assertEqual(least_paints((10, 9, 10, 10, 10, 10))[0], 9)

    def test_of_some_paints(self):
        for paints in helper.some_paints():
            self.assertEqual(least_paints(paints), min(helper.slow_looks(paints)))


class Mirrored(unittest.TestCase):
    def test_left_and_right_are_exchanged(self):
        self.assertEqual(mirrored(SIX), (10, 11, 12, 13, 15, 14))

    def test_of_some_paints(self):
        for paints in helper.some_paints():
            told = mirrored(paints)
            self.assertIs(type(told), tuple)
            self.assertEqual(told, tuple(paints[side] for side in (0, 1, 2, 3, 5, 4)))
            self.assertEqual(mirrored(told), paints)


class Leaving(unittest.TestCase):
    def test_of_some(self):
        self.assertEqual(leaving(SIX), [(0, 1, 2, 3, 4, 5)])
        self.assertEqual(leaving((3, 3, 3, 3, 3, 3)), helper.TURNS)
        self.assertEqual(leaving((1, 2, 0, 0, 0, 0)), [turn for turn in helper.TURNS if turn[:2] == (0, 1)])

    def test_of_some_paints(self):
        for paints in helper.some_paints():
            slow = [turn for turn in helper.TURNS if all(paints[turn[side]] == paints[side] for side in range(6))]
            self.assertEqual(leaving(paints), slow)

    def test_a_told_list_is_the_askers_own(self):
        told = leaving((3, 3, 3, 3, 3, 3))
        told.clear()
        self.assertEqual(leaving((3, 3, 3, 3, 3, 3)), helper.TURNS)
        self.assertEqual(looks(SIX), sorted(helper.slow_looks(SIX)))


class Looks(unittest.TestCase):
    def test_of_some(self):
        self.assertEqual(looks((3, 3, 3, 3, 3, 3)), [(3, 3, 3, 3, 3, 3)])
        self.assertEqual(looks((0, 1, 0, 0, 0, 0)), sorted(set(helper.slow_looks((0, 0, 0, 0, 0, 1)))))
        self.assertEqual(len(looks((0, 1, 0, 0, 0, 0))), 6)
        self.assertEqual(len(looks(SIX)), 24)

    def test_of_some_paints(self):
        for paints in helper.some_paints():
            told = looks(paints)
            slow = []
            for look in sorted(helper.slow_looks(paints)):
                if look not in slow:
                    slow.append(look)
            self.assertIsInstance(told, list)
            self.assertEqual(told, slow)

    def test_a_told_list_is_the_askers_own(self):
        told = looks((0, 1, 0, 0, 0, 0))
        told.clear()
        self.assertEqual(len(looks((0, 1, 0, 0, 0, 0))), 6)

    def test_looks_times_leaving_turns_are_twenty_four(self):
        for paints in list(product(range(3), repeat=6)) + helper.some_paints():
            self.assertEqual(len(looks(paints)) * len(leaving(paints)), 24)


class ByName(unittest.TestCase):
    def test_by_place_and_by_name_alike(self):
        paints = (0, 1, 1, 2, 0, 3)
        self.assertEqual(is_paints(thing=paints), is_paints(paints))
        self.assertEqual(turned(paints=paints, turn=U), turned(paints, U))
        self.assertEqual(turned(turn=U, paints=paints), turned(paints, U))
        self.assertEqual(turned(paints, turn=U), turned(paints, U))
        self.assertEqual(least_paints(paints=paints), least_paints(paints))
        self.assertEqual(mirrored(paints=paints), mirrored(paints))
        self.assertEqual(leaving(paints=paints), leaving(paints))
        self.assertEqual(looks(paints=paints), looks(paints))
