import unittest
from itertools import product

from tests import helper
from thirtycubes.errors import NoCubes
from thirtycubes.towers import tower, tower_judged

STILL = (0, 1, 2, 3, 4, 5)
U = (0, 1, 4, 5, 3, 2)
UU = (0, 1, 3, 2, 5, 4)
NOUGHTS = (0, 0, 0, 0, 0, 0)
G = helper.GREAT

CHOICES = [(one, other) for one in range(3) for other in range(3) if one != other]

# Ahead, behind, left and right show 0, 0, 0, 0 and 1, 1, 1, 1.
TWO = [NOUGHTS, (1, 1, 1, 1, 1, 1)]
# Paint 2 is nowhere.
BARRED = [(0, 0, 1, 1, 0, 1), (0, 1, 0, 1, 0, 1), (1, 1, 1, 1, 0, 0)]
# They have a tower, but not as they lie.
FOUR = [(0, 2, 1, 3, 2, 3), (0, 0, 0, 1, 2, 3), (1, 0, 2, 2, 0, 3), (1, 2, 0, 1, 3, 1)]


def slow_tower(cubes, shown=()):
    """Whether there is a tower: by every look of each cube, one after the other."""
    if len(shown) == len(cubes):
        return True
    for look in sorted({paints[2:] for paints in helper.slow_looks(cubes[len(shown)])}):
        if all(look[side] != other[side] for other in shown for side in range(4)):
            if slow_tower(cubes, shown + (look,)):
                return True
    return False


def slow_often(cubes, numbers, lap, paint):
    """How often a paint stands in the chosen axes of a round."""
    axes = [CHOICES[number][lap] for number in numbers]
    return sum((paints[2 * axis:2 * axis + 2]).count(paint) for paints, axis in zip(cubes, axes))


def slow_says_so(cubes, numbers, leaf):
    word, lap, paint = leaf
    often = slow_often(cubes, numbers, lap, paint)
    if word == "more":
        return often > 2
    for paints in cubes[len(numbers):]:
        often += max(paints[:2].count(paint), paints[2:4].count(paint), paints[4:].count(paint))
    return often < 2


def leaves(cubes, words=("more", "less")):
    return [(word, lap, paint) for word in words for lap in (0, 1) for paint in range(len(cubes))]


def early_tree(cubes, numbers=()):
    """A leaf wherever one says what is so; behind the last cube without one, a wrong one."""
    for leaf in leaves(cubes):
        if slow_says_so(cubes, numbers, leaf):
            return leaf
    if len(numbers) == len(cubes):
        return ("more", 0, 0)
    return ("case", [early_tree(cubes, numbers + (number,)) for number in range(6)])


def full_tree(cubes, word, numbers=()):
    """Cases up to the last cube, and leaves of one word alone."""
    if len(numbers) < len(cubes):
        return ("case", [full_tree(cubes, word, numbers + (number,)) for number in range(6)])
    right = [leaf for leaf in leaves(cubes, (word,)) if slow_says_so(cubes, numbers, leaf)]
    return right[-1] if right else (word, 0, 0)


def first_wrong(cubes, tree, numbers=()):
    """Of a tree whose forms are right, the numbers that lead to the first wrong one."""
    if tree[0] != "case":
        return None if slow_says_so(cubes, numbers, tree) else numbers
    for number, branch in enumerate(tree[1]):
        wrong = first_wrong(cubes, branch, numbers + (number,))
        if wrong is not None:
            return wrong
    return None


def case_with(place, thing, other):
    """A case of six, with a thing at one place and another one at the others."""
    return ("case", [thing if at == place else other for at in range(6)])


def drawn_with_tower(draw, many):
    """Cubes that were put together to a tower and turned then."""
    sides = [list(range(many)) for side in range(4)]
    cubes = []
    for number in range(many):
        long_sides = tuple(side.pop(draw(len(side))) for side in sides)
        cubes.append(helper.slow_turned((draw(many), draw(many)) + long_sides, helper.TURNS[draw(24)]))
    return cubes


def some_cubes():
    """Lists of one to five cubes, with a tower and without."""
    draw = helper.chances(11)
    found = [[NOUGHTS], TWO, BARRED, FOUR, FOUR[::-1], [NOUGHTS] * 2, [NOUGHTS] * 5, [(0, 1, 2, 3, 4, 0)] * 5]
    for many in range(1, 6):
        found += [drawn_with_tower(draw, many) for trial in range(12)]
        found += [helper.drawn_cubes(draw, many, many) for trial in range(25)]
    return found


class Refused(unittest.TestCase):
    def check(self, thing):
        with self.subTest(thing=thing):
            with self.assertRaises(NoCubes):
                tower(thing)
            for paper in (None, ("tower", [STILL]), ("none", ("more", 0, 0))):
                with self.assertRaises(NoCubes):
                    tower_judged(thing, paper)

    def test_what_are_no_cubes(self):
        for thing in helper.no_cubes(5) + [[STILL]]:
            self.check(thing)

    def test_none_six_and_a_tuple(self):
        for thing in ([], [NOUGHTS] * 6, [NOUGHTS] * 7, (NOUGHTS,), tuple(TWO), [TWO], [list(NOUGHTS)], None):
            self.check(thing)

    def test_a_paint_that_is_not_less_than_the_number_of_cubes(self):
        for many in range(1, 6):
            for side in range(6):
                for paint in (many, many + 1, G):
                    wrong = NOUGHTS[:side] + (paint,) + NOUGHTS[side + 1:]
                    for place in range(many):
                        cubes = [NOUGHTS] * many
                        cubes[place] = wrong
                        self.check(cubes)

    def test_the_greatest_paint_that_is_right(self):
        for many in range(1, 6):
            self.assertIsNotNone(tower([(many - 1,) * 6] * many))


class Paper(unittest.TestCase):
    def test_what_is_no_paper(self):
        turns = [STILL, STILL]
        leaf = ("less", 0, 2)
        wrong = helper.anything() + [
            ("tower",), ("tower", turns, turns), ["tower", turns], ("Tower", turns), ("towers", turns), (turns, "tower"),
            "tower", ("none",), ("none", leaf, leaf), ["none", leaf], ("None", leaf), (None, leaf), leaf, "none",
            (True, turns), (["tower"], turns), (("none",), leaf), ("case", [leaf] * 6), ("more", 0), ("", turns),
            ("turn", STILL), ("tower", STILL, STILL), (helper.nested(15), turns), helper.nested(16),
        ]
        for paper in wrong:
            with self.subTest(paper=paper):
                self.assertEqual(tower_judged(TWO, paper), ("paper",))
                self.assertEqual(tower_judged(BARRED, paper), ("paper",))


class Turns(unittest.TestCase):
    def check(self, cubes, thing, told):
        with self.subTest(cubes=cubes, thing=thing):
            judged = tower_judged(cubes, ("tower", thing))
            self.assertEqual(judged, told)
            if told is not None:
                self.assertEqual([type(part) for part in judged], [type(part) for part in told])

    def test_what_are_no_turns(self):
        wrong = helper.anything() + [
            (STILL, STILL), [STILL], [STILL] * 3, [STILL, None], [None, STILL], [[STILL, STILL]], [STILL, list(STILL)],
            [STILL, (1, 0, 2, 3, 4, 5)], [(0, STILL), (1, STILL)], "uf", helper.nested(15), [helper.nested(14)] * 2,
            [STILL, (helper.nested(13),) * 6],
        ]
        for thing in wrong:
            self.check(TWO, thing, ("turns",))
        for thing in helper.no_turns():
            self.check(TWO, [STILL, thing], ("turns",))
            self.check(TWO, [thing, STILL], ("turns",))

    def test_as_many_as_cubes(self):
        for many in range(1, 6):
            cubes = [(number,) * 6 for number in range(many)]
            self.check(cubes, [STILL] * many, None)
            self.check(cubes, [STILL] * (many + 1), ("turns",))
            self.check(cubes, [STILL] * (many - 1), ("turns",))

    def test_right_ones(self):
        self.check([NOUGHTS], [U], None)
        for turns in product(helper.TURNS[::5], repeat=2):
            self.check(TWO, list(turns), None)
        cubes = [(0, 0, 0, 1, 1, 0), (1, 1, 1, 0, 0, 1)]
        self.check(cubes, [STILL, STILL], None)
        self.check(cubes, [UU, UU], None)
        self.check(cubes, [U, U], None)

    def test_the_least_side_and_on_it_the_least_paint(self):
        three = [(0, 0, 0, 0, 0, 0), (0, 0, 1, 1, 1, 1), (0, 0, 2, 2, 2, 2)]
        self.check(three, [STILL] * 3, None)
        for side in (2, 3, 4, 5):
            for paint in range(3):
                for instead in range(3):
                    if instead != paint:
                        cubes = list(three)
                        cubes[paint] = tuple(instead if at == side else three[paint][at] for at in range(6))
                        self.check(cubes, [STILL] * 3, ("shown", side, min(paint, instead)))
        self.check([three[2]] * 3, [STILL] * 3, ("shown", 2, 0))
        self.check([three[0]] * 3, [STILL] * 3, ("shown", 2, 0))
        self.check([three[0], three[1], three[1]], [STILL] * 3, ("shown", 2, 1))
        self.check([three[0], three[2], three[2]], [STILL] * 3, ("shown", 2, 1))

    def test_above_and_beneath_are_not_looked_at(self):
        self.check([(0, 1, 0, 0, 0, 0), (0, 0, 1, 1, 1, 1)], [STILL, STILL], None)

    def test_each_cube_is_turned_by_its_own_turn(self):
        cubes = [(0, 0, 0, 1, 0, 1), (1, 1, 1, 0, 0, 1)]
        self.check(cubes, [STILL, STILL], ("shown", 4, 0))
        self.check(cubes, [U, U], ("shown", 2, 0))
        draw = helper.chances(8)
        for trial in range(400):
            many = 1 + draw(3)
            drawn = drawn_with_tower(draw, many)
            turns = [helper.TURNS[draw(24)] for paints in drawn]
            shown = [helper.slow_turned(paints, turn) for paints, turn in zip(drawn, turns)]
            wrong = [
                ("shown", side, paint) for side in (2, 3, 4, 5) for paint in range(many)
                if [look[side] for look in shown].count(paint) != 1
            ]
            self.check(drawn, turns, wrong[0] if wrong else None)


class Trees(unittest.TestCase):
    def check(self, cubes, tree, numbers):
        judged = tower_judged(cubes, ("none", tree))
        self.assertEqual(judged, None if numbers is None else ("tree", numbers), (cubes, tree))

    def test_what_is_no_tree_by_its_form(self):
        leaf = ("less", 0, 2)
        self.check(BARRED, leaf, None)
        wrong = helper.anything() + [
            ["less", 0, 2], ("less", 0), ("less", 0, 2, 0), ("less",), ("Less", 0, 2), ("none", 0, 2), ("", 0, 2), (0, 0, 2),
            ("less", 2, 0), ("less", -1, 2), ("less", 0, 3), ("less", 0, -1), ("less", G, 2), ("less", 0, G), ("less", -2, 2),
            ("less", False, 2), ("less", True, 2), ("less", 0, True), ("less", 0, "2"), ("less", "0", 2), ("less", None, 2),
            ("less", 0, None), ("less", [], 2), ("less", 0, [2]), ("less", (0,), 2), (["less"], 0, 2), (("less",), 0, 2),
            ("case", [leaf] * 5), ("case", [leaf] * 7), ("case", []), ("case", (leaf,) * 6), ("case", leaf), ("case",),
            ("case", [leaf] * 6, 0), ["case", [leaf] * 6], ("Case", [leaf] * 6), ("cases", [leaf] * 6), ("case", None),
            ("case", "121212"), ("more", [leaf] * 6), ("less", [leaf] * 6), ("none", leaf), ("tower", [STILL] * 3),
            helper.nested(15), ("case", helper.nested(14)), ("case", [leaf] * 6, [leaf] * 6), ("case", 0, 2),
        ]
        for thing in wrong:
            with self.subTest(thing=thing):
                self.check(BARRED, thing, ())
                for place in range(6):
                    self.check(BARRED, case_with(place, thing, leaf), (place,))
                self.check(BARRED, case_with(4, case_with(2, thing, leaf), leaf), (4, 2))
                self.check(BARRED, case_with(1, case_with(5, case_with(3, thing, leaf), leaf), leaf), (1, 5, 3))

    def test_truths_are_no_rounds_and_no_paints(self):
        cubes = [NOUGHTS, NOUGHTS]
        self.check(cubes, ("less", 0, 1), None)
        self.check(cubes, ("less", 1, 1), None)
        for lap, paint in ((False, 1), (True, 1), (0, True), (1, True), (False, True)):
            self.check(cubes, ("less", lap, paint), ())
        chosen = [("more", 1, 0)] * 6
        self.check(cubes, ("case", [("case", chosen)] * 6), None)
        self.check(cubes, ("case", [("case", [("more", True, 0)] * 6)] * 6), (0, 0))
        self.check(cubes, ("case", [("case", [("more", 1, False)] * 6)] * 6), (0, 0))

    def test_more_and_less_behind_all_choices(self):
        # Paint 2 is nowhere, so that a tree can be right but for one leaf.
        less = ("less", 0, 2)
        for cubes in (BARRED, [(0, 0, 0, 1, 1, 1)] * 3, [(0, 1, 0, 0, 0, 0), (1, 0, 1, 0, 0, 0), (1, 1, 0, 1, 0, 0)]):
            for depth in range(4):
                for numbers in product(range(6), repeat=depth):
                    for leaf in leaves(cubes):
                        tree = leaf
                        for number in numbers[::-1]:
                            tree = case_with(number, tree, less)
                        self.check(cubes, tree, None if slow_says_so(cubes, numbers, leaf) else numbers)

    def test_just_twice_is_neither_more_nor_less(self):
        for paint in (0, 1):
            for lap in (0, 1):
                for word in ("more", "less"):
                    inner = ("case", [(word, lap, paint)] * 6)
                    self.check(TWO, ("case", [inner] * 6), (0, 0))
                    self.check(TWO, (word, lap, paint), ())

    def test_less_takes_what_further_cubes_have_at_the_most(self):
        # Of paint 1: once on one axis of the first cube, none on the second, two on one axis of the third.
        cubes = [(0, 1, 0, 0, 2, 2), (0, 0, 0, 2, 2, 2), (1, 1, 1, 0, 2, 2)]
        self.check(cubes, ("less", 0, 1), ())
        self.check(cubes[:2] + [(1, 2, 1, 0, 1, 2)], ("less", 0, 1), ())
        self.check(cubes[:2] + [(0, 2, 2, 0, 0, 2)], ("less", 0, 1), None)
        self.check(cubes[:2] + [(0, 2, 2, 0, 0, 2)], ("less", 1, 1), None)
        self.check([(0, 0, 0, 2, 2, 2)] * 2 + [(1, 2, 2, 1, 1, 2)], ("less", 1, 1), None)
        self.check([(0, 0, 0, 2, 2, 2)] * 2 + [(2, 2, 1, 1, 0, 2)], ("less", 1, 1), ())

    def test_a_case_behind_the_last_cube_is_none(self):
        less = ("less", 0, 1)
        for inside in ([less] * 6, [], [None] * 6, helper.nested(8)):
            deep = ("case", [("case", [("case", inside)] * 6)] * 6)
            self.check([NOUGHTS, NOUGHTS], deep, (0, 0))
        self.check([NOUGHTS], ("case", [("case", [("more", 0, 0)] * 6)] * 6), (0,))
        last = case_with(5, case_with(5, ("case", [less] * 6), less), less)
        self.check([NOUGHTS, NOUGHTS], last, (5, 5))

    def test_a_case_behind_the_cube_ahead_of_the_last_is_one(self):
        less = ("less", 0, 1)
        self.check([NOUGHTS, NOUGHTS], ("case", [less] * 6), None)
        self.check([NOUGHTS, NOUGHTS], ("case", [("case", [less] * 6)] * 6), None)

    def test_the_first_wrong_tree_is_told(self):
        less = ("less", 0, 2)
        self.check(BARRED, ("case", [less, case_with(2, ("more", 0, 2), less), less, None, less, ("case", [])]), (1, 2))
        self.check(BARRED, ("case", [less, less, ("case", [None] * 7), None, less, less]), (2,))
        self.check(BARRED, ("case", [None] * 7), ())
        self.check(BARRED, ("case", [less, less, less, ("case", [less] * 5), None, less]), (3,))
        self.check(BARRED, ("case", [less, less, less, less, less, ("case", [("case", [less] * 6)] * 5 + [0])]), (5, 5))

    def test_numbers_are_told_as_a_tuple_of_whole_numbers(self):
        judged = tower_judged(BARRED, ("none", ("case", [None] * 6)))
        self.assertEqual(judged, ("tree", (0,)))
        self.assertIs(type(judged), tuple)
        self.assertIs(type(judged[1]), tuple)
        self.assertIs(type(judged[1][0]), int)

    def test_trees_that_the_tests_wrote(self):
        for cubes in some_cubes():
            tree = early_tree(cubes)
            wrong = first_wrong(cubes, tree)
            self.assertEqual(wrong is not None, slow_tower(cubes))
            self.check(cubes, tree, wrong)

    def test_full_trees_that_the_tests_wrote(self):
        for cubes in [cubes for cubes in some_cubes() if len(cubes) <= 3][::4]:
            for word in ("more", "less"):
                tree = full_tree(cubes, word)
                wrong = first_wrong(cubes, tree)
                self.assertEqual(wrong is not None, slow_tower(cubes))
                self.check(cubes, tree, wrong)

    def test_the_largest_trees_soon(self):
        with helper.soon(self, 20):
            cubes = [(0, 1, 2, 3, 4, 0)] * 4 + [NOUGHTS]
            self.check(cubes, full_tree(cubes, "more"), None)
            # One list at many places, as deep as a thing may be.
            shared = [None] * 6
            for level in range(6):
                shared = [("case", shared)] * 6
            self.check(cubes, ("case", shared), (0, 0, 0, 0, 0))
            level = ("less", 0, 1)
            for case in range(5):
                level = ("case", [level] * 6)
            self.check([NOUGHTS] * 5, level, None)


class Told(unittest.TestCase):
    def check_told(self, cubes):
        with self.subTest(cubes=cubes):
            paper = tower(cubes)
            self.assertIs(type(paper), tuple)
            self.assertEqual(paper[0], "tower" if slow_tower(cubes) else "none")
            self.assertIsNone(tower_judged(cubes, paper))
            if paper[0] == "tower":
                shown = [helper.slow_turned(paints, turn) for paints, turn in zip(cubes, paper[1])]
                for side in (2, 3, 4, 5):
                    self.assertEqual(sorted(look[side] for look in shown), list(range(len(cubes))))
            else:
                self.assertIsNone(first_wrong(cubes, paper[1]))

    def test_of_some(self):
        for cubes in some_cubes():
            self.check_told(cubes)

    def test_of_one_cube(self):
        self.assertEqual(tower([NOUGHTS])[0], "tower")

    def test_of_two_cubes(self):
        all_two = list(product((0, 1), repeat=6))
        for one in all_two[::3]:
            for other in all_two[::7]:
                self.check_told([one, other])

    def test_of_none_by_one_cube_alone(self):
        # All paints stand often enough, but not on both sides of a round.
        for cubes in ([(0, 0, 0, 1, 1, 1)] * 2, [(0, 0, 1, 1, 0, 0), (0, 0, 0, 1, 1, 1)]):
            self.check_told(cubes)

    def test_never_are_both_let_by(self):
        for cubes in some_cubes():
            if slow_tower(cubes):
                self.assertNotEqual(tower_judged(cubes, ("none", early_tree(cubes))), None)
                for leaf in leaves(cubes):
                    self.assertNotEqual(tower_judged(cubes, ("none", leaf)), None)
            elif len(cubes) <= 2:
                for turns in product(helper.TURNS, repeat=len(cubes)):
                    self.assertNotEqual(tower_judged(cubes, ("tower", list(turns))), None)

    def test_five_cubes_soon(self):
        draw = helper.chances(21)
        with helper.soon(self, 20):
            for cubes in ([(0, 1, 2, 3, 4, 0)] * 5, [(0, 0, 1, 2, 3, 4), (1, 1, 2, 3, 4, 0), (2, 2, 3, 4, 0, 1),
                                                     (3, 3, 4, 0, 1, 2), (4, 4, 0, 1, 2, 3)]):
                self.check_told(cubes)
            for trial in range(60):
                self.check_told(helper.drawn_cubes(draw, 5, 5))


class AsTold(unittest.TestCase):
    def test_what_is_handed_in_stays(self):
        for thing in helper.no_cubes(5)[::5]:
            helper.check_left(self, tower, thing)
            for paper in (thing, ("tower", thing), ("none", thing), ("none", ("case", thing))):
                helper.check_left(self, tower_judged, BARRED, paper)
        for cubes in some_cubes()[::9]:
            helper.check_left(self, tower, cubes)
            helper.check_left(self, tower_judged, cubes, tower(cubes))

    def test_a_told_list_is_the_askers_own_and_stands_at_one_place(self):
        for cubes in some_cubes()[::5]:
            helper.check_own(self, lambda: tower(cubes))

    def test_changed_behind_changes_no_answer(self):
        cubes = list(FOUR)
        told = tower(cubes)
        kept = repr(told)
        cubes.reverse()
        cubes.pop()
        self.assertEqual(repr(told), kept)
        self.assertEqual(repr(tower(list(FOUR))), kept)

    def test_a_paper_that_was_changed_is_judged_anew(self):
        paper = tower(TWO)
        self.assertIsNone(tower_judged(TWO, paper))
        paper[1].pop()
        self.assertEqual(tower_judged(TWO, paper), ("turns",))

    def test_by_place_and_by_name_alike(self):
        paper = tower(BARRED)
        self.assertEqual(tower(cubes=BARRED), paper)
        self.assertIsNone(tower_judged(cubes=BARRED, paper=paper))
        self.assertIsNone(tower_judged(paper=paper, cubes=BARRED))
        self.assertEqual(tower_judged(BARRED, paper=("none", None)), ("tree", ()))
