import unittest
from itertools import permutations, product

from tests import helper
from thirtycubes.errors import NoCubes
from thirtycubes.rows import row_judged, row_of

STILL = (0, 1, 2, 3, 4, 5)
U = (0, 1, 4, 5, 3, 2)
AROUND = (0, 1, 3, 2, 5, 4)
SIX = (10, 11, 12, 13, 14, 15)
G = helper.GREAT

# Left and right: 0 1, 1 2, 2 0; all else is unlike.
LINE = [(10, 11, 12, 13, 0, 1), (20, 21, 22, 23, 1, 2), (30, 31, 32, 33, 2, 0)]
STANDING = [(0, STILL), (1, STILL), (2, STILL)]


def slow_right(cubes, row, ring):
    """Whether what has the form of a row is one."""
    shown = [helper.slow_turned(cubes[number], turn) for number, turn in row]
    touching = list(zip(shown, shown[1:])) + ([(shown[-1], shown[0])] if ring else [])
    return all(one[5] == other[4] for one, other in touching)


def ends_of(paints):
    """What a cube can have on its left and right."""
    return sorted({(look[4], look[5]) for look in helper.slow_looks(paints)})


def slow_there_is(cubes, ring):
    """By every order and everything that each cube can have on its left and right."""
    for order in permutations(cubes):
        for ends in product(*[ends_of(paints) for paints in order]):
            lefts = [left for left, right in ends]
            rights = [right for left, right in ends]
            if rights[:-1] == lefts[1:] and (not ring or rights[-1] == lefts[0]):
                return True
    return False


def hangs_together(pairs):
    """Whether all paints are reached from the first pair's."""
    reached = set(pairs[0])
    for again in pairs:
        for pair in pairs:
            if reached & set(pair):
                reached |= set(pair)
    return all(set(pair) <= reached for pair in pairs)


def line_there_is(cubes, ring):
    """As point 15 says: by the choices of a pair, and how often each paint stands in them."""
    for pairs in product(*[[paints[:2], paints[2:4], paints[4:]] for paints in cubes]):
        stand = [paint for pair in pairs for paint in pair]
        odd = [paint for paint in set(stand) if stand.count(paint) % 2]
        if len(odd) <= (0 if ring else 2) and hangs_together(pairs):
            return True
    return False


class Refused(unittest.TestCase):
    def test_what_are_no_cubes(self):
        for thing in helper.no_cubes(7):
            with self.subTest(thing=thing):
                for ring in (False, True):
                    with self.assertRaises(NoCubes):
                        row_of(thing, ring)
                    for row in ([], [(0, STILL)], None):
                        with self.assertRaises(NoCubes):
                            row_judged(thing, row, ring)

    def test_none_and_eight_and_a_tuple(self):
        for thing in ([], [SIX] * 8, (SIX,), tuple(LINE), LINE + [list(SIX)], LINE + [None], LINE + [(0, 0, 0, 0, 0)],
                      LINE + [(0, 0, 0, 0, 0, -1)], LINE + [(0, 0, 0, 0, 0, True)], [LINE], None):
            with self.subTest(thing=thing):
                with self.assertRaises(NoCubes):
                    row_of(thing)
                with self.assertRaises(NoCubes):
                    row_judged(thing, STANDING)

    def test_one_to_seven_are_cubes(self):
        for many in range(1, 8):
            cubes = [(0, 0, 0, 0, 0, 0)] * many
            row = [(number, STILL) for number in range(many)]
            self.assertIsNone(row_judged(cubes, row))
            self.assertIsNone(row_judged(cubes, row, True))
            self.assertIsNotNone(row_of(cubes))


class Judged(unittest.TestCase):
    def check(self, thing, told, ring=False, cubes=LINE):
        with self.subTest(thing=thing, ring=ring):
            judged = row_judged(cubes, thing, ring)
            self.assertEqual(judged, told)
            if told is not None:
                self.assertEqual([type(part) for part in judged], [type(part) for part in told])

    def test_what_is_none_by_its_form(self):
        wrong = helper.anything() + [
            STANDING[:2], STANDING + [(0, STILL)], STANDING + [(3, STILL)], tuple(STANDING),
            [(0, STILL), (1, STILL), (1, STILL)], [(0, STILL), (0, STILL), (0, STILL)],
            [(0, STILL), (1, STILL), (3, STILL)], [(1, STILL), (2, STILL), (3, STILL)],
            [(0, STILL), (1, STILL), (-1, STILL)], [(-3, STILL), (-2, STILL), (-1, STILL)], [(0, STILL), (1, STILL), (G, STILL)],
            [(0, STILL), (True, STILL), (2, STILL)], [(False, STILL), (1, STILL), (2, STILL)],
            [[0, STILL], (1, STILL), (2, STILL)], [(0, STILL), (1, STILL), [2, STILL]],
            [(0, STILL), (1, STILL), (2,)], [(0, STILL), (1, STILL), (2, STILL, STILL)], [(0, STILL), (1, STILL), ()],
            [(0, STILL), (1, STILL), (STILL, 2)], [(0, STILL), (1, STILL), 2], [(0, STILL), (1, STILL), STILL],
            [(0, STILL), (1, STILL), ("2", STILL)], [(0, STILL), (1, STILL), ([], STILL)], [(0, STILL), (1, STILL), None],
            [STANDING], [STILL, STILL, STILL], [0, 1, 2], "012",
        ]
        for thing in wrong:
            for ring in (False, True):
                self.check(thing, ("row",), ring)

    def test_what_is_no_turn(self):
        for thing in helper.no_turns():
            for place in range(3):
                row = list(STANDING)
                row[place] = (place, thing)
                self.check(row, ("row",))

    def test_the_form_goes_ahead_of_the_sides(self):
        self.check([(1, U), (0, U), (2, (1, 0, 2, 3, 4, 5))], ("row",))
        self.check([(1, U), (0, U), (0, U)], ("row",), True)

    def test_up_to_sixteen_within_one_another(self):
        deep = helper.nested(14)
        for thing in (helper.nested(16), [deep] * 3, [(deep, STILL)] * 3, [(0, STILL), (1, STILL), (2, helper.nested(14))],
                      [(0, STILL), (1, STILL), (2, (helper.nested(13),) * 6)]):
            self.check(thing, ("row",))
            self.check(thing, ("row",), True)

    def test_a_row_and_a_ring(self):
        self.check(STANDING, None)
        self.check(STANDING, None, True)
        self.check([(1, STILL), (2, STILL), (0, STILL)], None, True)
        self.check([(2, AROUND), (1, AROUND), (0, AROUND)], None)
        self.check([(2, AROUND), (1, AROUND), (0, AROUND)], None, True)

    def test_the_least_side(self):
        self.check([(0, AROUND), (1, STILL), (2, STILL)], ("side", 0))
        self.check([(0, AROUND), (1, AROUND), (2, STILL)], ("side", 0))
        self.check([(0, STILL), (1, STILL), (2, AROUND)], ("side", 1))
        self.check([(0, STILL), (1, STILL), (2, U)], ("side", 1))
        self.check([(0, STILL), (1, U), (2, STILL)], ("side", 0))
        self.check([(0, STILL), (2, AROUND), (1, STILL)], ("side", 0))

    def test_a_place_is_one_of_the_row_and_no_number(self):
        self.check([(1, STILL), (2, STILL), (0, AROUND)], ("side", 1))
        self.check([(2, STILL), (0, STILL), (1, U)], ("side", 1))

    def test_the_last_place_of_a_ring(self):
        cubes = LINE[:2] + [(30, 31, 32, 33, 2, 3)]
        self.check(STANDING, None, False, cubes)
        self.check(STANDING, ("side", 2), True, cubes)
        self.check([(2, AROUND), (1, AROUND), (0, AROUND)], ("side", 2), True, cubes)
        self.check(STANDING[:2], ("side", 1), True, LINE[:2])

    def test_of_one_cube(self):
        self.check([(0, STILL)], None, False, [SIX])
        self.check([(0, STILL)], ("side", 0), True, [SIX])
        self.check([(0, STILL)], None, True, [(0, 1, 2, 3, 4, 4)])
        self.check([(0, U)], ("side", 0), True, [(0, 1, 2, 3, 4, 4)])

    def test_ring_told_by_place_by_name_and_left_out(self):
        cubes = LINE[:2]
        row = STANDING[:2]
        self.assertIsNone(row_judged(cubes, row))
        self.assertIsNone(row_judged(cubes, row, False))
        self.assertIsNone(row_judged(cubes, row, ring=False))
        self.assertEqual(row_judged(cubes, row, True), ("side", 1))
        self.assertEqual(row_judged(cubes, row, ring=True), ("side", 1))
        self.assertEqual(row_judged(ring=True, thing=row, cubes=cubes), ("side", 1))

    def test_what_touches_is_looked_at_and_nothing_else(self):
        draw = helper.chances(5)
        for trial in range(2000):
            many = 1 + draw(4)
            cubes = helper.drawn_cubes(draw, many, 2)
            numbers = list(range(many))
            row = [(numbers.pop(draw(len(numbers))), helper.TURNS[draw(24)]) for place in range(many)]
            for ring in (False, True):
                judged = row_judged(cubes, row, ring)
                self.assertEqual(judged is None, slow_right(cubes, row, ring))
                if judged is not None:
                    self.assertTrue(slow_right(cubes, row[:judged[1] + 1], False))


class RowOf(unittest.TestCase):
    def check_told(self, cubes, ring, there_is):
        with self.subTest(cubes=cubes, ring=ring):
            told = row_of(cubes, ring)
            self.assertEqual(told is not None, there_is)
            if there_is:
                self.assertIs(type(told), list)
                self.assertEqual(sorted(number for number, turn in told), list(range(len(cubes))))
                self.assertIsNone(row_judged(cubes, told, ring))
                self.assertTrue(slow_right(cubes, told, ring))

    def test_of_some(self):
        self.check_told(LINE, False, True)
        self.check_told(LINE, True, True)
        self.check_told(LINE[:2], False, True)
        self.check_told(LINE[:2], True, False)
        self.check_told([SIX], False, True)
        self.check_told([SIX], True, False)
        self.check_told([(0, 1, 2, 2, 3, 4)], True, True)
        self.check_told([SIX, SIX], True, True)
        self.check_told([SIX, (0, 1, 2, 3, 4, 5)], False, False)
        self.check_told([(G, 1, 2, 3, 4, 5), (G, 11, 12, 13, 14, 15)], False, True)
        self.check_told([(G, 1, 2, 3, 4, 5), (G - 1, 11, 12, 13, 14, 15)], False, False)

    def test_the_default_is_a_row(self):
        self.assertIsNotNone(row_of([SIX]))
        self.assertIsNotNone(row_of([SIX], ring=False))
        self.assertIsNone(row_of([SIX], ring=True))

    def test_just_where_there_is_one(self):
        draw = helper.chances(1)
        for palette in (2, 3, 4, 6, 8, 10):
            for trial in range(40):
                cubes = helper.drawn_cubes(draw, 1 + draw(3), palette)
                for ring in (False, True):
                    self.check_told(cubes, ring, slow_there_is(cubes, ring))

    def test_just_where_there_is_one_of_four_cubes(self):
        draw = helper.chances(2)
        for palette in (5, 8, 12):
            for trial in range(8):
                cubes = helper.drawn_cubes(draw, 4, palette)
                for ring in (False, True):
                    self.check_told(cubes, ring, slow_there_is(cubes, ring))

    def test_just_where_the_pairs_make_a_line_of_up_to_seven_cubes(self):
        draw = helper.chances(3)
        for palette in (3, 8, 12, 16, 20):
            for trial in range(12):
                cubes = helper.drawn_cubes(draw, 5 + draw(3), palette)
                for ring in (False, True):
                    self.check_told(cubes, ring, line_there_is(cubes, ring))

    def test_a_row_in_one_order_alone(self):
        # Each has one pair that fits, and they are told in another order.
        chain = [(100 + 10 * k, 101 + 10 * k, k, k + 1, 102 + 10 * k, 103 + 10 * k) for k in range(7)]
        cubes = [chain[k] for k in (3, 0, 6, 2, 5, 1, 4)]
        self.check_told(cubes, False, True)
        self.check_told(cubes, True, False)
        closed = chain[:6] + [(200, 201, 0, 6, 202, 203)]
        self.check_told([closed[k] for k in (3, 0, 6, 2, 5, 1, 4)], True, True)

    def test_seven_cubes_soon(self):
        lone = (100, 101, 102, 103, 104, 105)
        draw = helper.chances(4)
        with helper.soon(self):
            for ring in (False, True):
                self.check_told([(0, 0, 0, 0, 0, 0)] * 7, ring, True)
                self.check_told([(0, 1, 2, 3, 4, 5)] * 7, ring, not ring)
                # All but one fit in very many ways, and that one nowhere.
                self.check_told([(0, 0, 0, 0, 0, 0)] * 6 + [lone], ring, False)
                self.check_told([lone] + [(0, 1, 2, 0, 1, 2)] * 6, ring, False)
                for trial in range(20):
                    cubes = helper.drawn_cubes(draw, 6, 3 + draw(6))
                    self.check_told(cubes + [lone], ring, False)


class AsTold(unittest.TestCase):
    def test_what_is_handed_in_stays(self):
        for thing in helper.no_cubes(7)[::5]:
            helper.check_left(self, row_of, thing)
            helper.check_left(self, row_judged, LINE, thing)
            helper.check_left(self, row_judged, thing, STANDING)
        for ring in (False, True):
            helper.check_left(self, row_of, list(LINE), ring)
            helper.check_left(self, row_judged, list(LINE), list(STANDING), ring)

    def test_a_told_list_is_the_askers_own(self):
        for ring in (False, True):
            helper.check_own(self, lambda: row_of(LINE, ring))

    def test_changed_behind_changes_no_answer(self):
        cubes = list(LINE)
        told = row_of(cubes, True)
        kept = list(told)
        cubes.reverse()
        cubes.pop()
        self.assertEqual(told, kept)
        self.assertEqual(row_of(list(LINE), True), kept)

    def test_what_was_told_may_be_handed_in_again(self):
        told = row_of(LINE)
        self.assertIsNone(row_judged(LINE, told))
        self.assertIsNone(row_judged(LINE, told))

    def test_by_place_and_by_name_alike(self):
        self.assertEqual(row_of(cubes=LINE), row_of(LINE))
        self.assertEqual(row_of(cubes=LINE, ring=True), row_of(LINE, True))
        self.assertEqual(row_of(ring=True, cubes=LINE[:2]), None)
        self.assertEqual(row_judged(cubes=LINE, thing=STANDING), None)
        self.assertEqual(row_judged(LINE, ring=True, thing=[]), ("row",))
