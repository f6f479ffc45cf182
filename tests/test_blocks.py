import unittest
from itertools import combinations

from tests import helper
from thirtycubes.blocks import block_judged, blocks, eight_of
from thirtycubes.errors import NoCube, NoStock
from thirtycubes.thirty import Thirty

G = helper.GREAT
PLAIN = (0, 1, 2, 3, 4, 5)
WIDE = (0, 3, 20, 100, G - 1, G)
THIRTY = Thirty(PLAIN)
CUBES = helper.slow_thirty(PLAIN)
NUMBERS = {look: number for number, paints in enumerate(CUBES) for look in helper.slow_looks(paints)}
NO_NUMBERS = (-1, -30, 30, 31, G, -G)


def spot(place):
    """Where a place lies, in the directions of the sides."""
    return (1 if place % 2 else -1, 1 if place % 4 in (2, 3) else -1, 1 if place < 4 else -1)


# The outer sides of each place, and the side by which each two touch that do.
OUTER = [
    [side for side in range(6) if helper.led([spot(place)], helper.DIRECTIONS[side]) == (1,)] for place in range(8)
]
TOWARDS = {}
for here in range(8):
    for there in range(8):
        step = tuple((to - start) // 2 for start, to in zip(spot(here), spot(there)))
        if step in helper.DIRECTIONS:
            TOWARDS[here, there] = helper.DIRECTIONS.index(step)
TOUCHING = [(place, other) for place, other in combinations(range(8), 2) if (place, other) in TOWARDS]


def show_the_same(block, place, other):
    return block[place][TOWARDS[place, other]] == block[other][TOWARDS[other, place]]


def all_but(number):
    return [other for other in range(30) if other != number]


def slow_judged(number, block, stock):
    """Of a list of eight paints."""
    for place in range(8):
        found = NUMBERS.get(block[place])
        if found is None or found not in stock or found in [NUMBERS[paints] for paints in block[:place]]:
            return ("cube", place)
    for place in range(8):
        for side in OUTER[place]:
            if block[place][side] != CUBES[number][side]:
                return ("outer", place, side)
    for place, other in TOUCHING:
        if not show_the_same(block, place, other):
            return ("inner", place, other)
    return None


def looks_at(number, place, stock):
    """All looks of a stock that show at a place what is due."""
    return [
        look for look, other in NUMBERS.items()
        if other in stock and all(look[side] == CUBES[number][side] for side in OUTER[place])
    ]


def slow_blocks(number, stock):
    """From the last place back, and sorted behind."""
    begun = [{}]
    for place in reversed(range(8)):
        ways = looks_at(number, place, stock)
        begun = [{**block, place: look} for block in begun for look in ways]
        begun = [
            block for block in begun
            if len({NUMBERS[paints] for paints in block.values()}) == len(block)
            and all(show_the_same(block, place, other) for other in block if (place, other) in TOWARDS)
        ]
    return sorted([block[place] for place in range(8)] for block in begun)


def plain(block):
    """The block of the plain six that one of the wide six stands for."""
    return [tuple(WIDE.index(paint) for paint in paints) for paints in block]


def some_stocks(number, draw):
    """Stocks of every kind that the document names."""
    eight = eight_of(THIRTY, number)
    drawn = []
    for trial in range(4):
        numbers = list(range(30))
        drawn.append([numbers.pop(draw(len(numbers))) for place in range(8 + 7 * trial)])
    return [
        [], [number], all_but(number), list(range(30)), list(range(29, -1, -1)), eight, eight[::-1], eight + [number],
        [number] + eight[1:], eight[:7], [other for other in range(30) if other not in eight], *drawn,
    ]


def some_blocks(number, draw):
    """Right blocks, and bent ones."""
    found = []
    for block in blocks(THIRTY, number):
        found.append(block)
        for place in range(8):
            for turn in helper.TURNS[::5]:
                found.append(block[:place] + [helper.slow_turned(block[place], turn)] + block[place + 1:])
            for paints in (CUBES[number], CUBES[draw(30)], block[draw(8)], (0,) * 6, (0, 1, 2, 3, 4, 4), (1, 2, 3, 4, 5, 6)):
                found.append(block[:place] + [paints] + block[place + 1:])
            other = draw(8)
            bent = list(block)
            bent[place], bent[other] = bent[other], bent[place]
            found.append(bent)
    for trial in range(60):
        ways = [looks_at(number, place, all_but(number)) for place in range(8)]
        found.append([ways[place][draw(len(ways[place]))] for place in range(8)])
    return found


class Judged(unittest.TestCase):
    def check(self, number, block, told, *stock):
        with self.subTest(number=number, block=block, stock=stock):
            judged = block_judged(THIRTY, number, block, *stock)
            self.assertEqual(judged, told)
            if told is not None:
                self.assertEqual([type(part) for part in judged], [type(part) for part in told])

    def test_right_blocks(self):
        for number in range(30):
            for block in slow_blocks(number, all_but(number)):
                self.check(number, block, None)
                self.check(number, block, None, None)
                self.check(number, block, None, all_but(number))
                self.check(number, block, None, list(range(30)))
                self.check(number, block, None, [NUMBERS[paints] for paints in block])

    def test_what_is_no_block(self):
        right = slow_blocks(4, all_but(4))[0]
        wrong = [
            tuple(right), right[:7], right + [right[0]], right * 2, [right], [list(paints) for paints in right], (), [],
            right[:7] + [None], [None] + right[1:], right[:3] + [list(right[3])] + right[4:], [0] * 8, list(range(8)),
        ]
        wrong += [right[:7] + [thing] for thing in helper.no_paints()] + [[thing] + right[1:] for thing in helper.no_paints()]
        for thing in helper.anything() + wrong:
            kept = repr(thing)
            for number in (0, 4, 29):
                self.check(number, thing, ("block",))
                self.check(number, thing, ("block",), [])
            self.assertEqual(repr(thing), kept)

    def test_a_truth_is_no_paint(self):
        number = 7
        right = slow_blocks(number, all_but(number))[1]
        for place in range(8):
            for truth in (False, True):
                paints = tuple(truth if paint == truth else paint for paint in right[place])
                self.check(number, right[:place] + [paints] + right[place + 1:], ("block",))

    def test_cubes(self):
        for number in (0, 13, 29):
            right = slow_blocks(number, all_but(number))[0]
            numbers = [NUMBERS[paints] for paints in right]
            for place in range(8):
                for paints in ((0,) * 6, (0, 1, 2, 3, 4, 4), (1, 2, 3, 4, 5, 6), (G, 1, 2, 3, 4, 5), CUBES[number]):
                    self.check(number, right[:place] + [paints] + right[place + 1:], ("cube", place))
                # Of the stock, but for this one; and of another place.
                left = [other for other in range(30) if other != numbers[place]]
                self.check(number, right, ("cube", place), left)
                for other in range(8):
                    if other != place:
                        twice = right[:place] + [right[other]] + right[place + 1:]
                        self.check(number, twice, ("cube", max(place, other)))
            self.check(number, right, ("cube", 0), [])
            self.check(number, [(0,) * 6] * 8, ("cube", 0))

    def test_the_number_itself_only_where_it_is_of_the_stock(self):
        number = 11
        right = slow_blocks(number, all_but(number))[0]
        own = [CUBES[number]] + right[1:]
        self.check(number, own, ("cube", 0))
        self.check(number, own, slow_judged(number, own, range(30)), list(range(30)))
        self.assertEqual(slow_judged(number, own, range(30))[0], "inner")

    def test_outer_sides(self):
        seen = set()
        for number in (2, 17):
            for right in slow_blocks(number, all_but(number)):
                for place in range(8):
                    for turn in helper.TURNS[1:]:
                        bent = right[:place] + [helper.slow_turned(right[place], turn)] + right[place + 1:]
                        told = slow_judged(number, bent, all_but(number))
                        self.assertEqual(told[:2], ("outer", place))
                        self.check(number, bent, told)
                        seen.add(told)
        # Where the first outer sides are right, a turn has the last one right too.
        self.assertEqual({place for word, place, side in seen}, set(range(8)))
        self.assertGreaterEqual(len(seen), 16)

    def test_outer_sides_ahead_of_inner_ones_and_the_least_place_first(self):
        number = 23
        right = slow_blocks(number, all_but(number))[0]
        for one, other in combinations(range(8), 2):
            bent = list(right)
            bent[one] = helper.slow_turned(right[one], helper.TURNS[9])
            bent[other] = helper.slow_turned(right[other], helper.TURNS[14])
            told = slow_judged(number, bent, all_but(number))
            self.assertEqual(told[:2], ("outer", one))
            self.check(number, bent, told)

    def test_inner_sides(self):
        draw = helper.chances(3)
        seen = set()
        for number in (0, 5, 22):
            ways = [looks_at(number, place, all_but(number)) for place in range(8)]
            for right in slow_blocks(number, all_but(number)):
                for place in range(8):
                    for look in ways[place]:
                        bent = right[:place] + [look] + right[place + 1:]
                        told = slow_judged(number, bent, all_but(number))
                        self.check(number, bent, told)
                        seen.add(told)
            for trial in range(400):
                drawn = [ways[place][draw(len(ways[place]))] for place in range(8)]
                told = slow_judged(number, drawn, all_but(number))
                self.check(number, drawn, told)
                seen.add(told)
        self.assertLessEqual({("inner", 0, 1), ("inner", 0, 2), ("inner", 0, 4), ("inner", 1, 3)}, seen)
        self.assertLessEqual({told[1:] for told in seen if told and told[0] == "inner"}, set(TOUCHING))

    def test_every_touching_two_are_looked_at(self):
        """Each as the first ones that don't show the same."""
        self.assertEqual(len(TOUCHING), 12)
        for number in (6, 19):
            ways = [looks_at(number, place, range(30)) for place in range(8)]
            for wanted in TOUCHING:
                block = self.bent_first_at(wanted, ways, [])
                # Where all others show the same, the last two can't but do so.
                self.assertEqual(block is None, wanted == (6, 7))
                if block is not None:
                    self.check(number, block, ("inner",) + wanted, list(range(30)))

    def bent_first_at(self, wanted, ways, begun):
        place = len(begun)
        if place == 8:
            return begun
        for look in ways[place]:
            if NUMBERS[look] in [NUMBERS[paints] for paints in begun]:
                continue
            bent = begun + [look]
            beside = [(other, place) for other in range(place) if (other, place) in TOWARDS and (other, place) <= wanted]
            right = all(show_the_same(bent, *two) == (two != wanted) for two in beside)
            found = self.bent_first_at(wanted, ways, bent) if right else None
            if found is not None:
                return found
        return None

    def test_some_blocks_and_stocks_against_a_slow_way(self):
        draw = helper.chances(24)
        for number in (1, 8, 20):
            found = some_blocks(number, draw)
            for stock in some_stocks(number, draw):
                for block in found[draw(7)::7]:
                    self.check(number, block, slow_judged(number, block, stock), stock)
            for block in found:
                self.check(number, block, slow_judged(number, block, all_but(number)))


class Told(unittest.TestCase):
    def test_just_two_out_of_all_others(self):
        for number in range(30):
            told = blocks(THIRTY, number)
            self.assertIs(type(told), list)
            self.assertEqual([type(block) for block in told], [list, list])
            self.assertEqual(told, slow_blocks(number, all_but(number)))
            self.assertEqual(told, sorted(told))
            for block in told:
                self.assertEqual(sorted(NUMBERS[paints] for paints in block), eight_of(THIRTY, number))
                self.assertIsNone(block_judged(THIRTY, number, block))
                self.assertIsNone(slow_judged(number, block, all_but(number)))

    def test_out_of_other_stocks(self):
        draw = helper.chances(25)
        seen = set()
        for number in range(0, 30, 4):
            for stock in some_stocks(number, draw):
                told = blocks(THIRTY, number, stock)
                self.assertEqual(told, slow_blocks(number, stock))
                seen.add(len(told))
                for block in told:
                    self.assertIsNone(block_judged(THIRTY, number, block, stock))
        self.assertEqual(seen, {0, 2})

    def test_of_wide_paints(self):
        thirty = Thirty(WIDE)
        for number in (0, 9, 29):
            told = blocks(thirty, number)
            self.assertEqual([plain(block) for block in told], blocks(THIRTY, number))
            for block in told:
                self.assertIsNone(block_judged(thirty, number, block))
                self.assertEqual(block_judged(THIRTY, number, block), ("cube", 0))
            self.assertEqual(eight_of(thirty, number), eight_of(THIRTY, number))

    def test_eight(self):
        table = THIRTY.table()
        for number in range(30):
            twin = NUMBERS[helper.slow_mirrored(CUBES[number])]
            row = [line for line in table if twin in line][0]
            column = [line[row.index(twin)] for line in table]
            told = eight_of(THIRTY, number)
            self.assertIs(type(told), list)
            self.assertEqual(told, sorted(set(row + column) - {None, twin}, key=int))
            self.assertEqual(len(told), 8)
            self.assertNotIn(number, told)

    def test_soon(self):
        with helper.soon(self):
            for six in (PLAIN, WIDE):
                thirty = Thirty(six)
                for number in range(30):
                    self.assertEqual(len(blocks(thirty, number, list(range(30)))), 2)


class Refused(unittest.TestCase):
    def refused(self, at, asked, *things, **named):
        with self.subTest(things=things[1:], named=named):
            with self.assertRaises(NoStock) as caught:
                asked(*things, **named)
            self.assertEqual(caught.exception.at, at)
            self.assertIs(type(caught.exception.at), int)

    def wrong_stocks(self):
        yield from (([wrong], 0) for wrong in NO_NUMBERS)
        yield from (([0, 1, 2, wrong, 3], 3) for wrong in NO_NUMBERS)
        yield from (([5, wrong, 5], 1) for wrong in NO_NUMBERS)
        yield from (([5, 5, wrong], 1) for wrong in NO_NUMBERS)
        yield from ((list(range(30)) + [wrong], 30) for wrong in NO_NUMBERS)
        yield from ((list(range(30)) + [again], 30) for again in (0, 15, 29))
        yield from (([0, 0], 1), ([3, 1, 2, 3, 1], 3), ([1, 2, 2, 1, 30], 2), ([29, 28, 29], 2), ([4] * 9, 1))

    def test_stocks(self):
        right = blocks(THIRTY, 0)[0]
        for stock, at in self.wrong_stocks():
            kept = list(stock)
            self.refused(at, blocks, THIRTY, 0, stock)
            self.refused(at, blocks, THIRTY, 0, stock=stock)
            self.refused(at, blocks, thirty=THIRTY, number=0, stock=stock)
            self.refused(at, block_judged, THIRTY, 0, right, stock)
            self.refused(at, block_judged, THIRTY, 0, block=right, stock=stock)
            self.assertEqual(stock, kept)

    def test_stocks_whatever_the_block_is(self):
        for thing in helper.anything():
            self.refused(2, block_judged, THIRTY, 0, thing, [1, 2, 30])
            self.refused(1, block_judged, THIRTY, 0, thing, [1, 1])

    def test_numbers_ahead_of_stocks(self):
        right = blocks(THIRTY, 0)[0]
        for wrong in NO_NUMBERS:
            for stock in (None, [], [1, 2], [30], [1, 1], [-1]):
                for asked in (
                    lambda: blocks(THIRTY, wrong, stock), lambda: blocks(THIRTY, number=wrong, stock=stock),
                    lambda: block_judged(THIRTY, wrong, right, stock), lambda: block_judged(THIRTY, wrong, None, stock),
                    lambda: eight_of(THIRTY, wrong), lambda: eight_of(thirty=THIRTY, number=wrong),
                ):
                    with self.subTest(wrong=wrong, stock=stock):
                        with self.assertRaises(NoCube):
                            asked()


class AsTold(unittest.TestCase):
    def test_the_stock_by_place_by_name_left_out_none(self):
        for number in (0, 12):
            told = blocks(THIRTY, number)
            for again in (
                blocks(THIRTY, number, None), blocks(THIRTY, number, stock=None), blocks(THIRTY, number, all_but(number)),
                blocks(THIRTY, number, stock=all_but(number)), blocks(stock=None, number=number, thirty=THIRTY),
            ):
                self.assertEqual(again, told)
            own = [CUBES[number]] * 8
            self.assertEqual(block_judged(THIRTY, number, own), ("cube", 0))
            self.assertEqual(block_judged(THIRTY, number, own, None), ("cube", 0))
            self.assertEqual(block_judged(THIRTY, number, own, stock=None), ("cube", 0))
            self.assertEqual(block_judged(THIRTY, number, own, [number]), ("cube", 1))
            self.assertEqual(block_judged(thirty=THIRTY, number=number, block=own, stock=[number]), ("cube", 1))
            self.assertEqual(block_judged(THIRTY, number, block=told[1]), None)

    def test_what_is_handed_in_stays(self):
        stock = [29, 3, 17, 0, 4, 8, 11, 25, 2]
        for block in some_blocks(5, helper.chances(5))[::9]:
            helper.check_left(self, lambda *things: block_judged(THIRTY, 5, *things), block, stock)
        helper.check_left(self, lambda given: blocks(THIRTY, 5, given), stock)
        helper.check_left(self, lambda given: blocks(THIRTY, 5, given), [1, 0, 1])

    def test_told_lists_are_the_askers_own(self):
        for number in (0, 14):
            helper.check_own(self, lambda: blocks(THIRTY, number))
            helper.check_own(self, lambda: blocks(THIRTY, number, list(range(30))))
            helper.check_own(self, lambda: eight_of(THIRTY, number))

    def test_changed_behind_changes_no_answer(self):
        stock = eight_of(THIRTY, 3)
        told = blocks(THIRTY, 3, stock)
        kept = [list(block) for block in told]
        stock.clear()
        self.assertEqual(told, kept)
        self.assertEqual(blocks(THIRTY, 3, stock), [])
        self.assertEqual(blocks(THIRTY, 3), kept)
        self.assertEqual(THIRTY, Thirty(PLAIN))
