import copy
import unittest
from itertools import product

from tests import helper
from thirtycubes.errors import NoTurn, NoWord
from thirtycubes.turns import is_turn, put_together, times_of, turn_of, turned_back, turns, word_of

STILL = (0, 1, 2, 3, 4, 5)
U = (0, 1, 4, 5, 3, 2)
F = (5, 4, 2, 3, 0, 1)
R = (2, 3, 1, 0, 4, 5)


class AllTurns(unittest.TestCase):
    def test_the_quarters_are_as_written(self):
        self.assertEqual(turn_of("u"), (0, 1, 4, 5, 3, 2))
        self.assertEqual(turn_of("f"), (5, 4, 2, 3, 0, 1))
        self.assertEqual(turn_of("r"), (2, 3, 1, 0, 4, 5))

    def test_there_are_twenty_four_in_the_order_of_tuples(self):
        told = turns()
        self.assertIsInstance(told, list)
        self.assertEqual(len(told), 24)
        self.assertEqual(told, sorted(set(told)))

    def test_they_are_all_that_quarters_make(self):
        made = {STILL}
        while True:
            more = made | {tuple(quarter[side] for side in turn) for turn in made for quarter in helper.QUARTERS.values()}
            if more == made:
                break
            made = more
        self.assertEqual(turns(), sorted(made))

    def test_they_are_the_rotations_of_space(self):
        self.assertEqual(turns(), helper.TURNS)

    def test_each_is_a_tuple_of_whole_numbers(self):
        for turn in turns():
            self.assertIs(type(turn), tuple)
            self.assertEqual([type(side) for side in turn], [int] * 6)

    def test_a_told_list_is_the_askers_own(self):
        told = turns()
        told.reverse()
        told.pop()
        told.append("more")
        self.assertEqual(turns(), helper.TURNS)
        self.assertIsNot(turns(), turns())
        self.assertTrue(is_turn(STILL))
        self.assertFalse(is_turn("more"))


class IsTurn(unittest.TestCase):
    def test_of_turns(self):
        for turn in helper.TURNS:
            self.assertIs(is_turn(turn), True)

    def test_of_all_orders_of_the_sides(self):
        right = [sides for sides in product(range(6), repeat=6) if is_turn(sides)]
        self.assertEqual(right, helper.TURNS)

    def test_of_what_is_none(self):
        for thing in helper.no_turns():
            with self.subTest(thing=thing):
                self.assertIs(is_turn(thing), False)

    def test_of_paints_that_are_no_turn(self):
        self.assertIs(is_turn((0, 0, 0, 0, 0, 0)), False)

    def test_what_is_handed_in_stays(self):
        for thing in helper.no_turns():
            kept = copy.deepcopy(thing)
            is_turn(thing)
            self.assertEqual(repr(thing), repr(kept))


class Refused(unittest.TestCase):
    def test_each_function_refuses_what_is_no_turn(self):
        for thing in helper.no_turns():
            for asked in (turned_back, times_of, word_of):
                with self.subTest(asked=asked.__name__, thing=thing):
                    with self.assertRaises(NoTurn):
                        asked(thing)

    def test_put_together_refuses_at_both_places(self):
        for thing in helper.no_turns():
            with self.subTest(thing=thing):
                with self.assertRaises(NoTurn):
                    put_together(thing, U)
                with self.assertRaises(NoTurn):
                    put_together(U, thing)
                with self.assertRaises(NoTurn):
                    put_together(thing, thing)


class PutTogether(unittest.TestCase):
    def test_the_first_one_is_done_first(self):
        # u leads ahead to the left, f leads left to above.
        self.assertEqual(put_together(U, F)[2], 0)
        self.assertEqual(put_together(U, F), (5, 4, 0, 1, 3, 2))
        # f leaves ahead, u leads it to the left.
        self.assertEqual(put_together(F, U)[2], 4)
        self.assertEqual(put_together(F, U), (2, 3, 4, 5, 0, 1))

    def test_of_all_turns(self):
        for one in helper.TURNS:
            for other in helper.TURNS:
                told = put_together(one, other)
                self.assertEqual([told[side] for side in range(6)], [other[one[side]] for side in range(6)])
                self.assertIn(told, helper.TURNS)

    def test_the_one_that_leaves_all(self):
        for turn in helper.TURNS:
            self.assertEqual(put_together(turn, STILL), turn)
            self.assertEqual(put_together(STILL, turn), turn)


class TurnedBack(unittest.TestCase):
    def test_of_the_quarters(self):
        self.assertEqual(turned_back(U), (0, 1, 5, 4, 2, 3))
        self.assertEqual(turned_back(F), (4, 5, 2, 3, 1, 0))
        self.assertEqual(turned_back(R), (3, 2, 0, 1, 4, 5))

    def test_of_all_turns(self):
        for turn in helper.TURNS:
            back = turned_back(turn)
            self.assertIn(back, helper.TURNS)
            for side in range(6):
                self.assertEqual(back[turn[side]], side)


class TimesOf(unittest.TestCase):
    def test_of_some(self):
        self.assertEqual(times_of(STILL), 1)
        self.assertEqual(times_of(U), 4)
        self.assertEqual(times_of((0, 1, 3, 2, 5, 4)), 2)
        self.assertEqual(times_of((2, 3, 4, 5, 0, 1)), 3)

    def test_of_all_turns(self):
        for turn in helper.TURNS:
            lying = list(range(6))
            times = 0
            while times == 0 or lying != list(range(6)):
                lying = [turn[side] for side in lying]
                times += 1
            self.assertEqual(times_of(turn), times)

    def test_how_many_of_each(self):
        told = [times_of(turn) for turn in helper.TURNS]
        self.assertEqual([told.count(times) for times in range(1, 5)], [1, 9, 8, 6])


class TurnOf(unittest.TestCase):
    def test_of_the_text_without_signs(self):
        self.assertEqual(turn_of(""), STILL)

    def test_of_short_words(self):
        for letters in range(6):
            for word in product("ufr", repeat=letters):
                self.assertEqual(turn_of("".join(word)), helper.slow_turn(word))

    def test_the_first_letter_is_done_first(self):
        self.assertEqual(turn_of("uf"), (5, 4, 0, 1, 3, 2))
        self.assertEqual(turn_of("fu"), (2, 3, 4, 5, 0, 1))

    def test_of_a_thousand_letters(self):
        for letters in ("u" * 1000, "f" * 999, "ur" * 500, "ufr" * 333 + "r", "uffrr" * 200):
            self.assertEqual(turn_of(letters), helper.slow_turn(letters))

    def test_of_more_than_a_thousand_letters(self):
        for letters in ("u" * 1001, "uf" * 501, "r" * 1004, "f" * 5000):
            with self.assertRaises(NoWord):
                turn_of(letters)

    def test_of_other_texts(self):
        wrong = ("a", "d", "l", "b", "U", "F", "R", " ", "0", "1", "-", "\n", "~", ",", "'")
        for sign in wrong:
            for text in (sign, sign + "u", "u" + sign, "uf" + sign + "ru", "r" * 999 + sign, sign + "f" * 999):
                with self.subTest(text=text[:9]):
                    with self.assertRaises(NoWord):
                        turn_of(text)

    def test_of_two_letters_that_stand_beside_one_another(self):
        for text in ("u f", "u,f", "u\nf", "ufr\n", "\nufr", "ufr ", " ufr", "ufR", "UFR"):
            with self.subTest(text=text):
                with self.assertRaises(NoWord):
                    turn_of(text)


class WordOf(unittest.TestCase):
    def test_of_some(self):
        self.assertEqual(word_of(STILL), "")
        self.assertEqual([word_of(turn) for turn in (U, F, R)], ["u", "f", "r"])
        self.assertEqual(word_of((0, 1, 3, 2, 5, 4)), "uu")
        self.assertEqual(word_of((2, 3, 5, 4, 1, 0)), "frru")

    def test_of_all_turns_the_shortest_then_the_least(self):
        first = {}
        for letters in range(6):
            for word in sorted("".join(signs) for signs in product("ufr", repeat=letters)):
                first.setdefault(helper.slow_turn(word), word)
        self.assertEqual(len(first), 24)
        for turn in helper.TURNS:
            self.assertEqual(word_of(turn), first[turn])

    def test_its_turn_is_the_turn(self):
        for turn in helper.TURNS:
            self.assertEqual(turn_of(word_of(turn)), turn)


class ByName(unittest.TestCase):
    def test_by_place_and_by_name_alike(self):
        self.assertEqual(is_turn(thing=U), is_turn(U))
        self.assertEqual(put_together(one=U, other=F), put_together(U, F))
        self.assertEqual(put_together(other=F, one=U), put_together(U, F))
        self.assertEqual(put_together(U, other=F), put_together(U, F))
        self.assertEqual(turned_back(turn=F), turned_back(F))
        self.assertEqual(times_of(turn=R), times_of(R))
        self.assertEqual(turn_of(word="urf"), turn_of("urf"))
        self.assertEqual(word_of(turn=F), word_of(F))
