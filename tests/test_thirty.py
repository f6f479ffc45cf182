import copy
import unittest
from itertools import combinations, permutations

from tests import helper
from thirtycubes.errors import NoChange, NoCube, NoPaints, NoSix
from thirtycubes.thirty import Thirty, are_six, corners_of

G = helper.GREAT
PLAIN = (0, 1, 2, 3, 4, 5)
# Not in the order of their texts, and of thirty figures.
WIDE = (0, 3, 20, 100, G - 1, G)
SIXES = (PLAIN, (1, 2, 3, 4, 5, 6), (2, 3, 5, 7, 11, 13), (5, 9, 10, 99, 100, 1000), WIDE, tuple(range(G - 5, G + 1)))
CUBES = helper.slow_thirty(PLAIN)
CORNERS = [set(helper.slow_corners(paints)) for paints in CUBES]
NO_NUMBERS = (-1, -2, -30, 30, 31, 60, G, -G)


def slow_number(paints, cubes=CUBES):
    return cubes.index(min(helper.slow_looks(paints)))


TWINS = [slow_number(helper.slow_mirrored(paints)) for paints in CUBES]


def slow_lots(begun=()):
    """All lists of five numbers that go on from some, of which no two have a corner in common."""
    if len(begun) == 5:
        return [list(begun)]
    found = []
    for number in range(begun[-1] + 1 if begun else 0, 30):
        if not any(CORNERS[number] & CORNERS[other] for other in begun):
            found += slow_lots(begun + (number,))
    return found


def slow_is_table(thing):
    """Of six lists of six things that can be compared."""
    for row in range(6):
        for place in range(6):
            number = thing[row][place]
            if row == place:
                if number is not None:
                    return False
            elif type(number) is not int or number not in range(30) or TWINS[number] != thing[place][row]:
                return False
    if sorted(number for row in thing for number in row if number is not None) != list(range(30)):
        return False
    lines = [list(row) for row in thing] + [[row[place] for row in thing] for place in range(6)]
    return not any(
        CORNERS[one] & CORNERS[other]
        for line in lines
        for one, other in combinations([number for number in line if number is not None], 2)
    )


def put_otherwise(table, order):
    """A table with its rows and columns in another order."""
    return [[table[row][place] for place in order] for row in order]


def turned_over(table):
    return [[table[row][place] for row in range(6)] for place in range(6)]


def no_sixes():
    """Things that are no six, of every kind that the document names."""
    twice = [(0, 0, 1, 2, 3, 4), (0, 1, 2, 3, 4, 4), (0, 1, 2, 2, 3, 4), (5,) * 6, (G,) * 6]
    falling = [(5, 4, 3, 2, 1, 0), (1, 0, 2, 3, 4, 5), (0, 1, 2, 3, 5, 4), (0, 1, 3, 2, 4, 5), (1, 2, 3, 4, 5, 0)]
    below = [(-1, 0, 1, 2, 3, 4), (-6, -5, -4, -3, -2, -1)]
    lengths = [(0, 1, 2, 3, 4), (0, 1, 2, 3, 4, 5, 6), ()]
    truths = [(False, 1, 2, 3, 4, 5), (0, True, 2, 3, 4, 5), (False, True, 2, 3, 4, 5)]
    kinds = [list(PLAIN), "012345", ("0", "1", "2", "3", "4", "5"), (PLAIN,), [PLAIN], ([0], [1], [2], [3], [4], [5]), None]
    parts = helper.with_wrong_parts(PLAIN, [-1, -G] + helper.parts_of_other_kinds())
    return helper.anything() + twice + falling + below + lengths + truths + kinds + parts


def no_changes(six):
    """Lists of whole numbers that aren't each of the six once."""
    return [
        [], list(six[:5]), list(six) + [six[0]], list(six) + [six[5] + 1], [six[0]] * 6, list(six[:5]) + [six[0]],
        list(six[:5]) + [six[5] + 1], [-1] + list(six[1:]), [-paint for paint in six[1:]] + [six[0]], list(six) * 2,
    ]


class Six(unittest.TestCase):
    def test_are_six(self):
        for six in SIXES:
            self.assertIs(are_six(six), True)
            self.assertIs(are_six(thing=six), True)

    def test_are_none(self):
        for thing in no_sixes():
            with self.subTest(thing=thing):
                self.assertIs(are_six(thing), False)

    def test_of_small_paints_against_a_slow_way(self):
        for thing in permutations((0, 1, 2, 3, 4, 4, 5), 6):
            rises = all(thing[place] < thing[place + 1] for place in range(5))
            self.assertIs(are_six(thing), rises)

    def test_only_six_make_an_object(self):
        for thing in no_sixes():
            kept = repr(thing)
            with self.subTest(thing=thing):
                with self.assertRaises(NoSix):
                    Thirty(thing)
                with self.assertRaises(NoSix):
                    Thirty(six=thing)
                self.assertEqual(repr(thing), kept)

    def test_made_by_place_and_by_name(self):
        for six in SIXES:
            self.assertEqual(Thirty(six), Thirty(six=six))
            self.assertEqual(Thirty(six).cubes(), Thirty(six=six).cubes())


class Cubes(unittest.TestCase):
    def test_thirty_least_paints_in_order(self):
        for six in SIXES:
            told = Thirty(six).cubes()
            self.assertIs(type(told), list)
            self.assertEqual(len(told), 30)
            self.assertEqual(told, helper.slow_thirty(six))
        self.assertEqual(Thirty(PLAIN).cubes()[0], PLAIN)
        self.assertEqual(Thirty(PLAIN).cubes()[29], (0, 5, 1, 4, 3, 2))

    def test_numbers_of_all_looks(self):
        for six in (PLAIN, WIDE):
            thirty = Thirty(six)
            for number, paints in enumerate(helper.slow_thirty(six)):
                for look in helper.slow_looks(paints):
                    told = thirty.number(look)
                    self.assertIs(type(told), int)
                    self.assertEqual(told, number)
                self.assertEqual(thirty.number(paints=paints), number)

    def test_refuses_what_are_no_paints(self):
        for thirty in (Thirty(PLAIN), Thirty(WIDE)):
            for thing in helper.no_paints():
                kept = repr(thing)
                with self.subTest(thing=thing):
                    with self.assertRaises(NoPaints):
                        thirty.number(thing)
                    with self.assertRaises(NoPaints):
                        thirty.number(paints=thing)
                    self.assertEqual(repr(thing), kept)

    def test_refuses_what_have_not_each_of_the_six_once(self):
        wrong = [(0, 0, 1, 2, 3, 4), (0, 1, 2, 3, 4, 4), (0,) * 6, (1, 2, 3, 4, 5, 6), (G, 1, 2, 3, 4, 5), WIDE]
        for paints in wrong + [paints for paints in helper.some_paints() if sorted(paints) != list(PLAIN)]:
            with self.subTest(paints=paints):
                with self.assertRaises(NoCube):
                    Thirty(PLAIN).number(paints)
        with self.assertRaises(NoCube):
            Thirty(WIDE).number(PLAIN)
        with self.assertRaises(NoCube):
            Thirty(WIDE).number((0, 3, 20, 100, G - 1, G - 1))


class Shown(unittest.TestCase):
    def test_equal_just_where_of_the_same_six(self):
        for one in SIXES:
            for other in SIXES:
                self.assertIs(Thirty(one) == Thirty(other), one == other)
                self.assertIs(Thirty(one) != Thirty(other), one != other)

    def test_equal_to_nothing_else(self):
        thirty = Thirty(PLAIN)
        for other in helper.anything() + [PLAIN, list(PLAIN), str(thirty), repr(thirty), thirty.cubes(), 30]:
            with self.subTest(other=other):
                self.assertIs(thirty == other, False)
                self.assertIs(other == thirty, False)
                self.assertIs(thirty != other, True)

    def test_len_str_repr(self):
        for six in SIXES:
            self.assertEqual(len(Thirty(six)), 30)
            self.assertEqual(str(Thirty(six)), "%d %d %d %d %d %d" % six)
            self.assertEqual(repr(Thirty(six)), "Thirty((%d, %d, %d, %d, %d, %d))" % six)
        self.assertEqual(str(Thirty(PLAIN)), "0 1 2 3 4 5")
        self.assertEqual(repr(Thirty((2, 3, 5, 7, 11, 13))), "Thirty((2, 3, 5, 7, 11, 13))")


class Corners(unittest.TestCase):
    def test_of_some(self):
        self.assertEqual(
            corners_of(PLAIN),
            [(0, 2, 4), (0, 3, 5), (0, 4, 3), (0, 5, 2), (1, 2, 5), (1, 3, 4), (1, 4, 2), (1, 5, 3)],
        )
        self.assertEqual(corners_of((7,) * 6), [(7, 7, 7)] * 8)
        self.assertEqual(corners_of((1, 0, 0, 0, 0, 0)), [(0, 0, 0)] * 4 + [(0, 0, 1)] * 4)
        self.assertEqual(corners_of(paints=(10, 9, 10, 9, 10, 9))[0], (9, 9, 9))

    def test_of_some_paints(self):
        for paints in helper.some_paints() + list(SIXES):
            told = corners_of(paints)
            self.assertIs(type(told), list)
            self.assertEqual([type(corner) for corner in told], [tuple] * 8)
            self.assertEqual(told, helper.slow_corners(paints))

    def test_by_the_words_of_the_document(self):
        for paints in helper.some_paints()[::3] + [PLAIN, WIDE]:
            seen = []
            for turn in helper.TURNS:
                corner = (paints[turn[0]], paints[turn[2]], paints[turn[4]])
                seen.append(min(corner, corner[1:] + corner[:1], corner[2:] + corner[:2]))
            # Three turns lead to each corner.
            self.assertEqual([corner for corner in corners_of(paints) for time in range(3)], sorted(seen))

    def test_the_same_of_all_turned_paints(self):
        for paints in helper.some_paints()[::2] + [PLAIN, WIDE]:
            for look in helper.slow_looks(paints):
                self.assertEqual(corners_of(look), corners_of(paints))

    def test_refuses_what_are_no_paints(self):
        for thing in helper.no_paints():
            with self.subTest(thing=thing):
                with self.assertRaises(NoPaints):
                    corners_of(thing)
                with self.assertRaises(NoPaints):
                    corners_of(paints=thing)


class Twins(unittest.TestCase):
    def test_there_and_back(self):
        for six in SIXES:
            thirty = Thirty(six)
            for number in range(30):
                told = thirty.twin(number)
                self.assertIs(type(told), int)
                self.assertEqual(told, TWINS[number])
                self.assertNotEqual(told, number)
                self.assertEqual(thirty.twin(number=told), number)

    def test_of_the_mirrored_cube(self):
        thirty = Thirty(WIDE)
        for number, paints in enumerate(thirty.cubes()):
            for look in helper.slow_looks(paints)[::5]:
                self.assertEqual(thirty.number(helper.slow_mirrored(look)), thirty.twin(number))

    def test_shared_of_two_numbers(self):
        for six in (PLAIN, WIDE):
            thirty = Thirty(six)
            corners = [set(helper.slow_corners(paints)) for paints in helper.slow_thirty(six)]
            for number in range(30):
                for other in range(30):
                    told = thirty.shared(number, other)
                    self.assertIs(type(told), list)
                    self.assertEqual(told, sorted(corners[number] & corners[other]))

    def test_shared_of_a_number_and_itself(self):
        thirty = Thirty(WIDE)
        for number, paints in enumerate(thirty.cubes()):
            self.assertEqual(len(thirty.shared(number, number)), 8)
            self.assertEqual(thirty.shared(number=number, other=number), helper.slow_corners(paints))

    def test_no_corner_in_common_just_where_twins_or_in_one_line(self):
        thirty = Thirty(PLAIN)
        for number in range(30):
            row, place = thirty.place(number)
            for other in range(30):
                if other != number:
                    line, at = thirty.place(other)
                    apart = thirty.twin(number) == other or row == line or place == at
                    self.assertEqual(len(thirty.shared(number, other)), 0 if apart else 2)

    def test_refuses_what_is_no_number(self):
        for six in (PLAIN, WIDE):
            thirty = Thirty(six)
            for wrong in NO_NUMBERS:
                for asked in (
                    lambda: thirty.twin(wrong), lambda: thirty.place(wrong), lambda: thirty.place(number=wrong),
                    lambda: thirty.twin(number=wrong), lambda: thirty.shared(wrong, 0), lambda: thirty.shared(0, wrong),
                    lambda: thirty.shared(wrong, wrong), lambda: thirty.shared(29, other=wrong),
                    lambda: thirty.changed(wrong, list(six)),
                ):
                    with self.subTest(wrong=wrong):
                        with self.assertRaises(NoCube):
                            asked()


class Lots(unittest.TestCase):
    def test_twelve_in_order(self):
        slow = slow_lots()
        self.assertEqual(len(slow), 12)
        for six in SIXES:
            told = Thirty(six).lots()
            self.assertIs(type(told), list)
            self.assertEqual([type(lot) for lot in told], [list] * 12)
            self.assertEqual(told, slow)
            self.assertEqual(told, sorted(told))

    def test_each_number_in_two(self):
        numbers = [number for lot in Thirty(WIDE).lots() for number in lot]
        self.assertEqual([numbers.count(number) for number in range(30)], [2] * 30)


class Table(unittest.TestCase):
    def test_as_told(self):
        for six in SIXES:
            thirty = Thirty(six)
            table = thirty.table()
            self.assertIs(type(table), list)
            self.assertEqual([type(row) for row in table], [list] * 6)
            self.assertTrue(slow_is_table(table))
            self.assertIs(thirty.is_table(table), True)
            self.assertIs(thirty.is_table(thing=table), True)

    def test_lots_are_its_rows_and_columns(self):
        table = Thirty(PLAIN).table()
        lines = table + turned_over(table)
        lots = sorted(sorted(number for number in line if number is not None) for line in lines)
        self.assertEqual(Thirty(PLAIN).lots(), lots)

    def test_place(self):
        thirty = Thirty(WIDE)
        table = thirty.table()
        places = []
        for number in range(30):
            row, place = thirty.place(number)
            self.assertIs(type(thirty.place(number)), tuple)
            self.assertEqual(table[row][place], number)
            self.assertEqual(thirty.place(thirty.twin(number)), (place, row))
            places.append(thirty.place(number=number))
        self.assertEqual(sorted(places), [(row, place) for row in range(6) for place in range(6) if row != place])

    def test_put_otherwise_it_is_one(self):
        thirty = Thirty(PLAIN)
        table = thirty.table()
        for order in list(permutations(range(6)))[::17]:
            self.assertIs(thirty.is_table(put_otherwise(table, order)), True)
            self.assertIs(thirty.is_table(turned_over(put_otherwise(table, order))), True)

    def test_with_rows_alone_put_otherwise_it_is_none(self):
        thirty = Thirty(PLAIN)
        table = thirty.table()
        for order in list(permutations(range(6)))[1::31]:
            self.assertIs(thirty.is_table([list(table[row]) for row in order]), False)
            self.assertIs(thirty.is_table([[row[place] for place in order] for row in table]), False)

    def test_with_two_exchanged_it_is_none(self):
        thirty = Thirty(PLAIN)
        places = [(row, place) for row in range(6) for place in range(6)]
        for (row, place), (line, at) in combinations(places, 2):
            bent = thirty.table()
            bent[row][place], bent[line][at] = bent[line][at], bent[row][place]
            # Two from the diagonal are alike.
            self.assertIs(thirty.is_table(bent), row == place and line == at)

    def test_with_two_and_their_twins_exchanged(self):
        thirty = Thirty(PLAIN)
        table = thirty.table()
        for one, other in combinations(range(30), 2):
            becomes = {None: None, **{number: number for number in range(30)}}
            becomes.update({one: other, TWINS[one]: TWINS[other]})
            becomes.update({other: one, TWINS[other]: TWINS[one]})
            bent = [[becomes[number] for number in row] for row in table]
            self.assertIs(thirty.is_table(bent), slow_is_table(bent))
            self.assertIs(thirty.is_table(bent), False)

    def test_with_one_number_other_it_is_none(self):
        thirty = Thirty(PLAIN)
        for row in range(6):
            for place in range(6):
                right = thirty.table()[row][place]
                twice = [other for other in (0, 1, 29, (right or 0) + 1) if other != right]
                wrong = twice + [-1, 30, G, True, False, None, "", "0", str(right), [right], (right,), [], (), helper.nested(14)]
                for other in wrong:
                    bent = thirty.table()
                    bent[row][place] = other
                    if other is not right:
                        with self.subTest(row=row, place=place, other=other):
                            self.assertIs(thirty.is_table(bent), False)

    def test_a_truth_is_no_number(self):
        thirty = Thirty(PLAIN)
        for truth in (True, False):
            row, place = thirty.place(int(truth))
            bent = thirty.table()
            bent[row][place] = truth
            self.assertEqual(bent, thirty.table())
            self.assertIs(thirty.is_table(bent), False)

    def test_of_other_forms(self):
        thirty = Thirty(PLAIN)
        table = thirty.table()
        wrong = [
            table[:5], table[1:], table + [table[0]], table + [[]], [table], tuple(table), [tuple(row) for row in table],
            tuple(tuple(row) for row in table), table[:5] + [tuple(table[5])], [row[:5] for row in table],
            [row + [None] for row in table], table[:5] + [table[5][:5]], table[:5] + [table[5] + [0]], table[:5] + [None],
            table[:5] + ["012345"], [None] * 6, [[None] * 6 for row in range(6)], [[]] * 6, [[0] * 6] * 6,
            [[number for number in row if number is not None] for row in table], thirty.lots(), thirty.cubes(), str(table),
        ]
        for thing in helper.anything() + wrong:
            kept = repr(thing)
            with self.subTest(thing=thing):
                self.assertIs(thirty.is_table(thing), False)
                self.assertIs(Thirty(WIDE).is_table(thing), False)
                self.assertEqual(repr(thing), kept)

    def test_of_drawn_ones(self):
        thirty = Thirty(PLAIN)
        draw = helper.chances(20)
        for trial in range(60):
            numbers = list(range(30))
            drawn = [[None] * 6 for row in range(6)]
            for row in range(6):
                for place in range(row):
                    drawn[row][place] = numbers.pop(draw(len(numbers)))
                    drawn[place][row] = TWINS[drawn[row][place]]
                    numbers.remove(drawn[place][row])
            self.assertIs(thirty.is_table(drawn), slow_is_table(drawn))


class Changes(unittest.TestCase):
    def slow_changed(self, number, change):
        return slow_number(tuple(change[PLAIN.index(paint)] for paint in CUBES[number]))

    def test_changed(self):
        for change in list(permutations(PLAIN))[::37] + [PLAIN]:
            for number in range(30):
                told = Thirty(PLAIN).changed(number, list(change))
                self.assertIs(type(told), int)
                self.assertEqual(told, self.slow_changed(number, change))

    def test_changed_for_wide_paints(self):
        thirty = Thirty(WIDE)
        for change in list(permutations(range(6)))[::91]:
            for number in range(30):
                told = thirty.changed(number=number, change=[WIDE[place] for place in change])
                self.assertEqual(told, self.slow_changed(number, change))

    def test_the_change_that_leaves_all(self):
        for six in SIXES:
            thirty = Thirty(six)
            self.assertEqual([thirty.changed(number, list(six)) for number in range(30)], list(range(30)))
            self.assertEqual(thirty.rows_changed(list(six)), [0, 1, 2, 3, 4, 5])

    def test_rows_and_columns_go_where_told(self):
        thirty = Thirty(PLAIN)
        table = thirty.table()
        for change in permutations(PLAIN):
            rows = thirty.rows_changed(list(change))
            self.assertIs(type(rows), list)
            self.assertEqual(sorted(rows), [0, 1, 2, 3, 4, 5])
            for number in range(30):
                row, place = thirty.place(number)
                self.assertEqual(table[rows[row]][rows[place]], thirty.changed(number, list(change)))

    def test_where_two_paints_change_places(self):
        thirty = Thirty(PLAIN)
        seen = []
        for one, other in combinations(range(6), 2):
            change = list(PLAIN)
            change[one], change[other] = other, one
            rows = thirty.rows_changed(change=change)
            for row in range(6):
                self.assertNotEqual(rows[row], row)
                self.assertEqual(rows[rows[row]], row)
            seen.append(tuple(rows))
        self.assertEqual(len(set(seen)), 15)

    def test_two_changes_one_behind_the_other(self):
        thirty = Thirty(WIDE)
        some = [list(change) for change in list(permutations(WIDE))[::67]]
        for one in some:
            for other in some:
                both = [other[WIDE.index(paint)] for paint in one]
                first, second = thirty.rows_changed(one), thirty.rows_changed(other)
                self.assertEqual(thirty.rows_changed(both), [second[row] for row in first])
                for number in (0, 7, 29):
                    behind = thirty.changed(thirty.changed(number, one), other)
                    self.assertEqual(thirty.changed(number, both), behind)

    def test_refuses_what_is_no_change(self):
        for six in SIXES:
            for change in no_changes(six):
                with self.subTest(change=change):
                    with self.assertRaises(NoChange):
                        Thirty(six).changed(0, change)
                    with self.assertRaises(NoChange):
                        Thirty(six).changed(number=29, change=change)
                    with self.assertRaises(NoChange):
                        Thirty(six).rows_changed(change)

    def test_a_truth_is_no_paint_of_a_change(self):
        for change in ([False, 1, 2, 3, 4, 5], [0, True, 2, 3, 4, 5], [True, False, 2, 3, 4, 5]):
            with self.assertRaises(NoChange):
                Thirty(PLAIN).changed(0, change)
            with self.assertRaises(NoChange):
                Thirty(PLAIN).rows_changed(change)

    def test_no_cube_goes_ahead_of_no_change(self):
        for number in NO_NUMBERS:
            for change in no_changes(PLAIN) + [list(PLAIN)]:
                with self.assertRaises(NoCube):
                    Thirty(PLAIN).changed(number, change)


class AsTold(unittest.TestCase):
    def test_told_lists_are_the_askers_own(self):
        for six in (PLAIN, WIDE):
            thirty = Thirty(six)
            for asked in (
                thirty.cubes, thirty.lots, thirty.table, lambda: thirty.shared(0, 2), lambda: thirty.shared(3, 3),
                lambda: thirty.rows_changed(list(six[::-1])), lambda: corners_of(six), lambda: corners_of((0,) * 6),
            ):
                helper.check_own(self, asked)

    def test_an_object_stays_as_it_is(self):
        thirty = Thirty(PLAIN)
        before = (thirty.cubes(), thirty.lots(), thirty.table(), str(thirty), repr(thirty), len(thirty))
        kept = copy.deepcopy(before)
        for told in (thirty.cubes(), thirty.lots(), thirty.table(), thirty.shared(0, 0)):
            helper.spoil(told)
        for wrong in NO_NUMBERS:
            with self.assertRaises(NoCube):
                thirty.twin(wrong)
        self.assertEqual(before, kept)
        self.assertEqual((thirty.cubes(), thirty.lots(), thirty.table(), str(thirty), repr(thirty), len(thirty)), kept)
        self.assertEqual([thirty.number(paints) for paints in thirty.cubes()], list(range(30)))

    def test_what_is_handed_in_stays(self):
        thirty = Thirty(PLAIN)
        for change in no_changes(PLAIN) + [[5, 4, 3, 2, 1, 0]]:
            helper.check_left(self, thirty.changed, 3, change)
            helper.check_left(self, thirty.rows_changed, change)
        helper.check_left(self, thirty.is_table, thirty.table())

    def test_what_was_told_may_be_handed_in_again(self):
        for six in SIXES:
            thirty = Thirty(six)
            self.assertEqual([thirty.number(paints) for paints in thirty.cubes()], list(range(30)))
            for lot in thirty.lots():
                self.assertEqual([thirty.shared(one, other) for one, other in combinations(lot, 2)], [[]] * 10)

    def test_soon(self):
        with helper.soon(self):
            for trial in range(200):
                thirty = Thirty(WIDE)
                thirty.cubes(), thirty.lots(), thirty.is_table(thirty.table()), thirty.rows_changed(list(WIDE))
