import unittest
from itertools import combinations_with_replacement, product

from tests import helper
from thirtycubes.alike import alike, alike_judged, hand_of, pairs_of
from thirtycubes.errors import NoPaints

SIX = (10, 11, 12, 13, 14, 15)
U = (0, 1, 4, 5, 3, 2)
STILL = (0, 1, 2, 3, 4, 5)
G = helper.GREAT


def slow_pairs(paints):
    return sorted(tuple(sorted(paints[place:place + 2])) for place in (0, 2, 4))


def slow_hand(paints):
    """By whether the three sides' directions lie to one another as those of 0, 2 and 4 do."""
    pairs = slow_pairs(paints)
    if any(pairs.count(pair) > 1 or pair[0] == pair[1] for pair in pairs):
        return None
    sides = []
    for pair in pairs:
        sides += [side for side in range(6) if (paints[side], paints[side ^ 1]) == pair]
    lies = helper.determinant([helper.DIRECTIONS[side] for side in sides])
    return int(lies == helper.determinant([helper.DIRECTIONS[side] for side in (0, 2, 4)]))


def slow_let_by(one, other, paper):
    """Whether a paper of a right form says what is so."""
    if paper[0] == "turn":
        return helper.slow_turned(one, paper[1]) == other
    if paper[0] == "pair":
        return slow_pairs(one).count(paper[1:]) != slow_pairs(other).count(paper[1:])
    hands = {slow_hand(one), slow_hand(other)}
    return slow_pairs(one) == slow_pairs(other) and hands == {0, 1}


def papers_for(one, other):
    """Every paper of a right form that could be right."""
    turning = [("turn", turn) for turn in helper.TURNS]
    paints = sorted(set(one + other))
    barring = [("pair", low, high) for low, high in combinations_with_replacement(paints, 2)] + [("twin",)]
    return turning, barring


def some_pairs():
    """Two paints each: alike, mirrored, with one paint other, and of great numbers."""
    found = []
    for paints in helper.some_paints()[::3] + [SIX, (0, 1, 0, 2, 1, 2), (3, 4, 4, 3, 5, 6), (0, 1, 0, 1, 2, 3)]:
        found += [(paints, helper.slow_turned(paints, turn)) for turn in helper.TURNS[::7]]
        found.append((paints, helper.slow_turned(helper.slow_mirrored(paints), helper.TURNS[10])))
        found.append((paints, paints[:5] + (paints[5] + 1,)))
        found.append((paints, (paints[2], paints[1], paints[0]) + paints[3:]))
    found.append(((G, G - 1, 0, 1, 2, 3), (G - 1, G, 0, 1, 2, 3)))
    found.append(((G, G - 1, 0, 1, 2, 3), (G, 0, G - 1, 1, 2, 3)))
    return found


class Pairs(unittest.TestCase):
    def test_of_some(self):
        self.assertEqual(pairs_of(SIX), [(10, 11), (12, 13), (14, 15)])
        self.assertEqual(pairs_of((15, 14, 13, 12, 11, 10)), [(10, 11), (12, 13), (14, 15)])
        self.assertEqual(pairs_of((5, 0, 0, 4, 2, 2)), [(0, 4), (0, 5), (2, 2)])
        self.assertEqual(pairs_of((7, 7, 7, 7, 7, 7)), [(7, 7), (7, 7), (7, 7)])
        self.assertEqual(pairs_of((1, 0, 0, 1, 0, 0)), [(0, 0), (0, 1), (0, 1)])

    def test_numbers_are_not_compared_as_texts(self):
        self.assertEqual(pairs_of((10, 9, 100, 20, G, 3)), [(3, G), (9, 10), (20, 100)])

    def test_of_some_paints(self):
        for paints in helper.some_paints():
            told = pairs_of(paints)
            self.assertIs(type(told), list)
            self.assertEqual([type(pair) for pair in told], [tuple] * 3)
            self.assertEqual(told, slow_pairs(paints))

    def test_the_same_behind_every_turn(self):
        for paints in helper.some_paints():
            for look in helper.slow_looks(paints):
                self.assertEqual(pairs_of(look), pairs_of(paints))


class Hand(unittest.TestCase):
    def test_of_some(self):
        self.assertEqual(hand_of((0, 1, 2, 3, 4, 5)), 1)
        self.assertEqual(hand_of((0, 1, 2, 3, 5, 4)), 0)
        self.assertEqual(hand_of((2, 3, 0, 1, 4, 5)), 0)
        self.assertEqual(hand_of((1, 0, 3, 2, 4, 5)), 1)
        self.assertEqual(hand_of((G, G - 1, 0, 1, 2, 3)), slow_hand((G, G - 1, 0, 1, 2, 3)))

    def test_of_paints_that_stand_in_several_pairs(self):
        self.assertEqual(hand_of((0, 1, 0, 2, 1, 2)), 1)
        self.assertEqual(hand_of((0, 1, 0, 2, 2, 1)), 0)
        self.assertEqual(hand_of((0, 1, 2, 0, 1, 2)), 0)
        self.assertEqual(hand_of((0, 1, 0, 2, 0, 3)), 1)

    def test_none_where_it_is_not_looked_at(self):
        for paints in ((0, 0, 1, 2, 3, 4), (0, 1, 2, 2, 3, 4), (0, 1, 2, 3, 4, 4), (0, 1, 0, 1, 2, 3),
                       (0, 1, 1, 0, 2, 3), (2, 3, 0, 1, 1, 0), (5, 5, 5, 5, 5, 5)):
            self.assertIsNone(hand_of(paints))

    def test_numbers_no_truths(self):
        self.assertIs(type(hand_of((0, 1, 2, 3, 4, 5))), int)
        self.assertIs(type(hand_of((0, 1, 2, 3, 5, 4))), int)

    def test_of_all_cubes_of_four_paints(self):
        told = []
        for paints in product(range(4), repeat=6):
            told.append(hand_of(paints))
            self.assertEqual(told[-1], slow_hand(paints))
        self.assertEqual({0, 1, None}, set(told))
        self.assertEqual(told.count(0), told.count(1))

    def test_the_same_behind_every_turn_and_the_other_one_mirrored(self):
        for paints in helper.some_paints() + [(0, 1, 0, 2, 1, 2), (0, 1, 0, 2, 0, 3)]:
            hand = hand_of(paints)
            for look in helper.slow_looks(paints):
                self.assertEqual(hand_of(look), hand)
                self.assertEqual(hand_of(helper.slow_mirrored(look)), None if hand is None else 1 - hand)


class Judged(unittest.TestCase):
    def check(self, one, other, paper, told):
        with self.subTest(one=one, other=other, paper=paper):
            judged = alike_judged(one, other, paper)
            self.assertEqual(judged, told)
            if told is not None:
                self.assertEqual([type(part) for part in judged], [type(part) for part in told])

    def test_what_is_no_paper(self):
        wrong = helper.anything() + [
            ("turn",), ("turn", U, U), ["turn", U], ("Turn", U), ("turns", U), (U, "turn"), "turn", ("turn ", U),
            ("pair",), ("pair", 0), ("pair", (0, 1)), ("pair", 0, 1, 2), ["pair", 0, 1], ("pairs", 0, 1),
            ("twin", None), ("twin", ()), ["twin"], "twin", ("twins",), ("",), (["twin"],), (("twin",),), (("turn",), U),
            ("tower", []), ("none", ()), ("paper",), (True, U), (0, 0, 1),
        ]
        for paper in wrong:
            self.check(SIX, SIX, paper, ("paper",))
            self.check(SIX, helper.slow_mirrored(SIX), paper, ("paper",))

    def test_what_is_no_turn(self):
        for thing in helper.no_turns():
            self.check(SIX, SIX, ("turn", thing), ("turn",))

    def test_the_least_side_that_differs(self):
        self.check(SIX, SIX, ("turn", U), ("side", 2))
        self.check(SIX, (10, 11, 15, 14, 13, 12), ("turn", U), ("side", 4))
        self.check(SIX, (10, 11, 15, 14, 12, 0), ("turn", U), ("side", 5))
        self.check(SIX, (0, 11, 15, 14, 12, 0), ("turn", U), ("side", 0))
        for side in range(6):
            other = SIX[:side] + (9,) + SIX[side + 1:]
            self.check(SIX, other, ("turn", STILL), ("side", side))
            self.check(SIX, other[:side] + (9,) * (6 - side), ("turn", STILL), ("side", side))
        for turn in helper.TURNS:
            shown = helper.slow_turned(SIX, turn)
            differ = [side for side in range(6) if shown[side] != SIX[side]]
            self.check(SIX, SIX, ("turn", turn), ("side", differ[0]) if differ else None)

    def test_a_turn_leads_the_first_to_the_second(self):
        self.check(SIX, (10, 11, 15, 14, 12, 13), ("turn", U), None)
        self.check((10, 11, 15, 14, 12, 13), SIX, ("turn", U), ("side", 2))
        for turn in helper.TURNS:
            self.check(SIX, helper.slow_turned(SIX, turn), ("turn", turn), None)

    def test_what_is_no_pair(self):
        other = (0, 0, 0, 0, 0, 0)
        for thing in helper.anything() + helper.parts_of_other_kinds() + [-1, -2, -G]:
            if type(thing) is not int or thing < 0:
                self.check(SIX, other, ("pair", thing, 11), ("pair",))
                self.check(SIX, other, ("pair", 10, thing), ("pair",))
                self.check(SIX, other, ("pair", thing, thing), ("pair",))
        for low, high in ((11, 10), (1, 0), (G, 0), (G, G - 1), (-1, -1), (-2, -1), (-1, 10), ("a", "b"), ((), ())):
            self.check(SIX, other, ("pair", low, high), ("pair",))

    def test_a_truth_is_no_paint(self):
        one, other = (0, 0, 1, 1, 0, 1), (0, 1, 0, 1, 0, 1)
        self.check(one, other, ("pair", 0, 1), None)
        for low, high in ((False, True), (0, True), (False, 1), (False, False), (True, True)):
            self.check(one, other, ("pair", low, high), ("pair",))

    def test_a_pair_at_as_many_places(self):
        self.check(SIX, SIX, ("pair", 10, 11), ("many",))
        self.check(SIX, (11, 10, 0, 1, 2, 3), ("pair", 10, 11), ("many",))
        self.check(SIX, (10, 12, 11, 13, 14, 15), ("pair", 14, 15), ("many",))
        self.check(SIX, SIX, ("pair", 10, 12), ("many",))
        self.check(SIX, SIX, ("pair", 0, G), ("many",))
        self.check((0, 1, 1, 0, 2, 2), (2, 2, 0, 1, 0, 1), ("pair", 0, 1), ("many",))

    def test_a_pair_at_unlike_many_places(self):
        self.check(SIX, (10, 12, 11, 13, 14, 15), ("pair", 10, 11), None)
        self.check(SIX, (10, 12, 11, 13, 14, 15), ("pair", 10, 12), None)
        self.check((0, 1, 1, 0, 2, 2), (2, 2, 0, 1, 0, 0), ("pair", 0, 1), None)
        self.check((0, 1, 1, 0, 2, 2), (2, 2, 0, 1, 0, 0), ("pair", 0, 0), None)
        self.check((0, 0, 0, 0, 0, 0), (0, 0, 0, 0, 1, 1), ("pair", 0, 0), None)
        self.check((G, G, 0, 0, 0, 0), (G, 0, G, 0, 0, 0), ("pair", G, G), None)

    def test_twins_of_unlike_pairs(self):
        self.check(SIX, (10, 12, 11, 13, 14, 15), ("twin",), ("pairs",))
        self.check((0, 0, 0, 0, 0, 0), (0, 0, 0, 0, 0, 1), ("twin",), ("pairs",))
        self.check((0, 1, 1, 0, 2, 2), (2, 2, 2, 2, 0, 1), ("twin",), ("pairs",))

    def test_twins_with_a_hand_missing_or_the_same(self):
        self.check(SIX, SIX, ("twin",), ("hands",))
        self.check(SIX, (10, 11, 15, 14, 12, 13), ("twin",), ("hands",))
        self.check((0, 0, 1, 2, 3, 4), (0, 0, 1, 2, 4, 3), ("twin",), ("hands",))
        self.check((0, 1, 0, 1, 2, 3), (0, 1, 0, 1, 3, 2), ("twin",), ("hands",))

    def test_twins(self):
        self.check(SIX, helper.slow_mirrored(SIX), ("twin",), None)
        self.check(helper.slow_mirrored(SIX), SIX, ("twin",), None)
        self.check((0, 1, 0, 2, 1, 2), (0, 1, 0, 2, 2, 1), ("twin",), None)
        for look in helper.slow_looks(helper.slow_mirrored(SIX)):
            self.check(SIX, look, ("twin",), None)

    def test_papers_up_to_sixteen_within_one_another(self):
        deep = helper.nested(15)
        for word in ("turn", "pair", "twin", deep):
            self.check(SIX, SIX, (word, deep, deep, deep), ("paper",))
            self.check(SIX, SIX, [word, deep], ("paper",))
        self.check(SIX, SIX, ("turn", deep), ("turn",))
        self.check(SIX, SIX, ("turn", (helper.nested(14),) * 6), ("turn",))
        self.check(SIX, SIX, ("pair", deep, 0), ("pair",))
        self.check(SIX, SIX, ("pair", 0, deep), ("pair",))
        self.check(SIX, SIX, helper.nested(16), ("paper",))

    def test_lets_by_just_what_is_so(self):
        for one, other in some_pairs():
            turning, barring = papers_for(one, other)
            for paper in turning + barring:
                judged = alike_judged(one, other, paper)
                self.assertEqual(judged is None, slow_let_by(one, other, paper), (one, other, paper))


class Alike(unittest.TestCase):
    def check_told(self, one, other):
        paper = alike(one, other)
        self.assertIs(type(paper), tuple)
        self.assertIsNone(alike_judged(one, other, paper), (one, other, paper))
        self.assertTrue(slow_let_by(one, other, paper), (one, other, paper))
        self.assertEqual(paper[0] == "turn", other in helper.slow_looks(one))
        self.assertEqual(alike(one, other), paper)
        return paper

    def test_of_some(self):
        self.assertEqual(alike(SIX, (10, 11, 15, 14, 12, 13)), ("turn", U))
        self.assertEqual(alike(SIX, helper.slow_mirrored(SIX)), ("twin",))
        self.assertEqual(alike((0, 0, 0, 0, 0, 0), (1, 1, 1, 1, 1, 1))[0], "pair")
        self.assertEqual(alike((0, 0, 1, 1, 0, 1), (0, 1, 0, 1, 0, 1))[0], "pair")

    def test_tells_one_that_is_let_by(self):
        for one, other in some_pairs():
            self.check_told(one, other)
            self.check_told(other, one)

    def test_of_all_with_two_paints(self):
        some = list(product((0, 1), repeat=6))[::2]
        for one in some:
            for other in some:
                self.check_told(one, other)

    def test_of_thirty_figures(self):
        one = (G, G - 1, G - 2, G - 3, G - 4, G - 5)
        self.assertEqual(self.check_told(one, helper.slow_looks(one)[5])[0], "turn")
        self.assertEqual(self.check_told(one, helper.slow_mirrored(one)), ("twin",))
        self.assertEqual(self.check_told(one, (G,) * 6)[0], "pair")

    def test_never_are_a_turn_and_a_bar_both_let_by(self):
        for one, other in some_pairs():
            turning, barring = papers_for(one, other)
            turns_let_by = any(alike_judged(one, other, paper) is None for paper in turning)
            bars_let_by = any(alike_judged(one, other, paper) is None for paper in barring)
            self.assertNotEqual(turns_let_by, bars_let_by, (one, other))

    def test_alike_to_the_mirrored_one_just_without_a_hand(self):
        for paints in list(product(range(4), repeat=6))[::5] + helper.some_paints() + [(0, 1, 0, 2, 1, 2)]:
            pairs = slow_pairs(paints)
            handed = len(set(pairs)) == 3 and all(low != high for low, high in pairs)
            paper = alike(paints, helper.slow_mirrored(paints))
            self.assertEqual(paper[0], "twin" if handed else "turn")
            self.assertIsNone(alike_judged(paints, helper.slow_mirrored(paints), paper))


class Refused(unittest.TestCase):
    def test_each_function_refuses_what_are_no_paints(self):
        for thing in helper.no_paints():
            for asked in (pairs_of, hand_of):
                with self.subTest(asked=asked.__name__, thing=thing):
                    with self.assertRaises(NoPaints):
                        asked(thing)

    def test_either_of_two_paints_ahead_of_all_else(self):
        for thing in helper.no_paints():
            for one, other in ((thing, SIX), (SIX, thing), (thing, thing)):
                with self.subTest(one=one, other=other):
                    with self.assertRaises(NoPaints):
                        alike(one, other)
                    for paper in (("turn", STILL), ("pair", 10, 11), ("twin",), None, ("turn", None)):
                        with self.assertRaises(NoPaints):
                            alike_judged(one, other, paper)


class AsTold(unittest.TestCase):
    def test_what_is_handed_in_stays(self):
        for thing in helper.no_paints() + helper.no_turns():
            helper.check_left(self, pairs_of, thing)
            helper.check_left(self, hand_of, thing)
            helper.check_left(self, alike, SIX, thing)
            for paper in (thing, ("turn", thing), ("pair", thing, 0), ("pair", 0, thing)):
                helper.check_left(self, alike_judged, SIX, SIX, paper)

    def test_a_told_list_is_the_askers_own(self):
        for paints in helper.some_paints()[::9]:
            helper.check_own(self, lambda: pairs_of(paints))
        told = pairs_of(SIX)
        helper.spoil(told)
        self.assertEqual(hand_of(SIX), 1)
        self.assertEqual(alike(SIX, helper.slow_mirrored(SIX)), ("twin",))

    def test_by_place_and_by_name_alike(self):
        other = helper.slow_mirrored(SIX)
        self.assertEqual(pairs_of(paints=SIX), pairs_of(SIX))
        self.assertEqual(hand_of(paints=SIX), hand_of(SIX))
        self.assertEqual(alike(one=SIX, other=other), alike(SIX, other))
        self.assertEqual(alike(other=other, one=SIX), alike(SIX, other))
        self.assertIsNone(alike_judged(one=SIX, other=other, paper=("twin",)))
        self.assertEqual(alike_judged(paper=("turn", STILL), other=other, one=SIX), ("side", 4))
        self.assertEqual(alike_judged(SIX, other, paper=("pair", 1, 0)), ("pair",))
