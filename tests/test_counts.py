import unittest
from itertools import permutations, product

from tests import helper
from thirtycubes.counts import all_cubes, cube_of, how_many, how_many_with, number_of
from thirtycubes.errors import NoCounts, NoFit, NoNumber, NoPaints, NoPalette

G = helper.GREAT


def rings_of(turn):
    """How many rings a turn leads the sides round in."""
    return len({frozenset(ring_from(turn, side)) for side in range(6)})


def ring_from(turn, side):
    ring = []
    while side not in ring:
        ring.append(side)
        side = turn[side]
    return ring


def slow_how_many(palette):
    """By the looks that each turn leaves as they are."""
    return sum(palette ** rings_of(turn) for turn in helper.TURNS) // 24


def slow_cubes(palette):
    return sorted({min(helper.slow_looks(paints)) for paints in product(range(palette), repeat=6)})


CUBES = [slow_cubes(palette) for palette in range(5)]


def slow_how_many_with(counts):
    """By painting the sides in every order."""
    sides = [paint for paint, many in enumerate(counts) for side in range(many)]
    return len({min(helper.slow_looks(paints)) for paints in set(permutations(sides))})


def all_counts(palette, left=6):
    """All lists of so many numbers that come to so much."""
    if palette == 0:
        return [[]] if left == 0 else []
    return [[many] + rest for many in range(left + 1) for rest in all_counts(palette - 1, left - many)]


class HowMany(unittest.TestCase):
    def test_of_some(self):
        told = [how_many(palette) for palette in range(7)]
        self.assertEqual(told, [0, 1, 10, 57, 240, 800, 2226])
        self.assertEqual([type(many) for many in told], [int] * 7)

    def test_of_none_told(self):
        self.assertEqual(how_many(), 2226)

    def test_as_many_as_there_are(self):
        for palette in range(5):
            self.assertEqual(how_many(palette), len(CUBES[palette]))

    def test_of_great_palettes(self):
        for palette in (7, 30, 31, 1000, 2 ** 31, 2 ** 64, 10 ** 29 + 7, G):
            self.assertEqual(how_many(palette), slow_how_many(palette))

    def test_refused_below_0(self):
        for palette in (-1, -2, -6, -G):
            with self.assertRaises(NoPalette):
                how_many(palette)


class HowManyWith(unittest.TestCase):
    def test_of_some(self):
        self.assertEqual(how_many_with([6]), 1)
        self.assertEqual(how_many_with([5, 1]), 1)
        self.assertEqual(how_many_with([4, 2]), 2)
        self.assertEqual(how_many_with([3, 3]), 2)
        self.assertEqual(how_many_with([2, 2, 2]), 6)
        self.assertEqual(how_many_with([1, 1, 1, 1, 1, 1]), 30)
        self.assertEqual(how_many_with([2, 1, 1, 1, 1]), 15)
        self.assertIs(type(how_many_with([6])), int)

    def test_of_all_counts_of_four_paints(self):
        for counts in all_counts(4):
            own = [paints for paints in CUBES[4] if [paints.count(paint) for paint in range(4)] == counts]
            self.assertEqual(how_many_with(counts), len(own), counts)

    def test_of_counts_of_more_paints(self):
        for counts in ([1, 1, 1, 1, 1, 1], [2, 1, 1, 1, 1], [1, 2, 1, 0, 1, 1], [1, 1, 0, 2, 2], [3, 0, 1, 1, 0, 1]):
            self.assertEqual(how_many_with(counts), slow_how_many_with(counts))

    def test_noughts_change_nothing(self):
        for counts in ([6], [5, 1], [2, 2, 2], [1, 1, 1, 1, 1, 1], [3, 2, 1]):
            many = how_many_with(counts)
            self.assertEqual(how_many_with([0] + counts), many)
            self.assertEqual(how_many_with(counts + [0, 0]), many)
            self.assertEqual(how_many_with([0, 0, counts[0], 0] + counts[1:]), many)
            with helper.soon(self):
                self.assertEqual(how_many_with([0] * 100000 + counts + [0] * 100000), many)

    def test_all_counts_of_a_palette_come_together(self):
        for palette in range(8):
            together = sum(how_many_with(counts) for counts in all_counts(palette))
            self.assertEqual(together, how_many(palette))

    def test_refuses_what_are_no_counts(self):
        wrong = helper.anything() + [
            [5], [7], [6, 1], [5, 2], [0], [0, 0], [1, 1, 1, 1, 1], [1] * 7, [G], [6, G],
            [-1, 7], [7, -1], [6, -1, 1], [-6], [-G, G + 6], [3, 3, -1, 1],
            [True, 5], [5, True], [6, False], [False, 6], [True] * 6, [True, 1, 1, 1, 1, 1], [4, True, True],
            (6,), (5, 1), (1, 1, 1, 1, 1, 1), "6", "51", "111111", ["6"], [6, "0"], [6, ""], [6, None], [None],
            [[6]], [(6,)], [6, []], [6, ()], ([6],), [6, helper.nested(15)], [helper.nested(15)], 6,
        ]
        for counts in wrong:
            with self.subTest(counts=counts):
                with self.assertRaises(NoCounts):
                    how_many_with(counts)
                helper.check_left(self, how_many_with, counts)


class AllCubes(unittest.TestCase):
    def test_of_some(self):
        self.assertEqual(all_cubes(0), [])
        self.assertEqual(all_cubes(1), [(0, 0, 0, 0, 0, 0)])
        self.assertEqual(len(all_cubes(2)), 10)
        self.assertEqual(all_cubes(2)[:3], [(0, 0, 0, 0, 0, 0), (0, 0, 0, 0, 0, 1), (0, 0, 0, 0, 1, 1)])

    def test_of_none_told(self):
        self.assertEqual(all_cubes(), CUBES[2])

    def test_of_each_palette(self):
        for palette in range(5):
            told = all_cubes(palette)
            self.assertIs(type(told), list)
            self.assertEqual([type(paints) for paints in told], [tuple] * len(told))
            self.assertEqual(told, CUBES[palette])

    def test_refuses_others(self):
        for palette in (-1, -2, 5, 6, 100, G, -G):
            with self.assertRaises(NoPalette):
                all_cubes(palette)
            with self.assertRaises(NoPalette):
                number_of(palette, (0, 0, 0, 0, 0, 0))
            with self.assertRaises(NoPalette):
                cube_of(palette, 0)


class Numbers(unittest.TestCase):
    def test_there_and_back_for_each_cube(self):
        for palette in range(5):
            for number, paints in enumerate(CUBES[palette]):
                self.assertEqual(number_of(palette, paints), number)
                told = cube_of(palette, number)
                self.assertIs(type(told), tuple)
                self.assertEqual(told, paints)

    def test_of_turned_paints(self):
        for palette in (1, 2, 3, 4):
            for number, paints in list(enumerate(CUBES[palette]))[::palette ** 2]:
                for look in helper.slow_looks(paints):
                    self.assertEqual(number_of(palette, look), number)

    def test_a_number_hangs_on_the_palette(self):
        paints = (1, 1, 1, 1, 1, 1)
        self.assertEqual([number_of(palette, paints) for palette in (2, 3, 4)],
                         [CUBES[palette].index(paints) for palette in (2, 3, 4)])

    def test_no_fit(self):
        for palette in range(5):
            for side in range(6):
                for paint in (palette, palette + 1, G):
                    paints = (0,) * side + (paint,) + (0,) * (5 - side)
                    with self.assertRaises(NoFit):
                        number_of(palette, paints)
        with self.assertRaises(NoFit):
            number_of(0, (0, 0, 0, 0, 0, 0))

    def test_no_paints(self):
        for thing in helper.no_paints():
            with self.subTest(thing=thing):
                for palette in (0, 1, 4):
                    with self.assertRaises(NoPaints):
                        number_of(palette, thing)

    def test_no_palette_goes_ahead_of_no_paints_and_of_no_fit(self):
        for palette in (-1, 5, G, -G):
            for thing in helper.no_paints() + [(9, 9, 9, 9, 9, 9)]:
                with self.assertRaises(NoPalette):
                    number_of(palette, thing)

    def test_no_paints_goes_ahead_of_no_fit(self):
        for paints in ((9, 9, 9, 9, 9, -1), (9, 9, 9, 9, 9, True), (9,) * 7, [9] * 6):
            with self.assertRaises(NoPaints):
                number_of(4, paints)

    def test_no_number(self):
        for palette in range(5):
            for number in (-1, -2, -len(CUBES[palette]), len(CUBES[palette]), len(CUBES[palette]) + 1, G, -G):
                if number != 0:
                    with self.subTest(palette=palette, number=number):
                        with self.assertRaises(NoNumber):
                            cube_of(palette, number)
        with self.assertRaises(NoNumber):
            cube_of(0, 0)

    def test_no_palette_goes_ahead_of_no_number(self):
        for palette in (-1, 5):
            for number in (-1, 0, 10 ** 6):
                with self.assertRaises(NoPalette):
                    cube_of(palette, number)


class AsTold(unittest.TestCase):
    def test_what_is_handed_in_stays(self):
        for counts in all_counts(3):
            helper.check_left(self, how_many_with, counts)

    def test_changed_behind_changes_no_answer(self):
        counts = [3, 3]
        told = how_many_with(counts)
        counts.append(0)
        counts[0] = 0
        counts[2] = 3
        self.assertEqual(told, 2)
        self.assertEqual(how_many_with(counts), 2)

    def test_a_told_list_is_the_askers_own(self):
        for palette in range(5):
            helper.check_own(self, lambda: all_cubes(palette))
        told = all_cubes(3)
        helper.spoil(told)
        self.assertEqual(number_of(3, (2, 2, 2, 2, 2, 2)), 56)
        self.assertEqual(cube_of(3, 56), (2, 2, 2, 2, 2, 2))

    def test_by_place_and_by_name_alike(self):
        paints = (3, 0, 1, 1, 2, 0)
        self.assertEqual(how_many(palette=3), how_many(3))
        self.assertEqual(how_many_with(counts=[2, 4]), how_many_with([2, 4]))
        self.assertEqual(all_cubes(palette=3), all_cubes(3))
        self.assertEqual(number_of(palette=4, paints=paints), number_of(4, paints))
        self.assertEqual(number_of(paints=paints, palette=4), number_of(4, paints))
        self.assertEqual(cube_of(palette=4, number=99), cube_of(4, 99))
        self.assertEqual(cube_of(number=99, palette=4), cube_of(4, 99))
