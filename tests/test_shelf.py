import unittest

from tests import helper
from thirtycubes.alike import alike_judged
from thirtycubes.errors import CubeError, NoBack, NoName, NoPaints, NoPlace, NoRow, NoWord, TooMany
from thirtycubes.shelf import Shelf

G = helper.GREAT
STILL = (0, 1, 2, 3, 4, 5)
LETTERS = "abcdefghijklmnopqrstuvwxyz"

ONE_NAME = ("down", "drop", "show", "cube", "leave", "pile", "four", "number")
TWO_NAMES = ("set", "how", "twin")
# How many words each row has.
COUNTS = {
    "put": 3, "turn": 3, "paint": 3, "back": 1, "names": 1, **{word: 2 for word in ONE_NAME}, **{word: 3 for word in TWO_NAMES},
}
NO_NAMES = (
    "", "A", "aB", "a1", "1", "-", "abcdefghi", "a" * 9, "a" * 100, "a_b", "a,b", "a\nb", "a\n", "\n", "a-", "~", "0,0,0,0,0,0",
    "Names", "z" * 1000,
)
NO_PAINTS = (
    "", ",", "0", "0,0,0,0,0", "0,0,0,0,0,0,0", "0,0,0,0,0,", ",0,0,0,0,0", "0,0,,0,0,0", "0;0;0;0;0;0", "00,0,0,0,0,0",
    "0,01,0,0,0,0", "0,0,0,0,0,007", "-1,0,0,0,0,0", "-0,0,0,0,0,0", "+1,0,0,0,0,0", "0,0,a,0,0,0", "0,0,0,0,0,0x1",
    "1_0,0,0,0,0,0", "0.0,0,0,0,0,0", "1" + "0" * 30 + ",0,0,0,0,0", "0,0,0,0,0," + "9" * 31, "0,0,0," + "1" * 1000 + ",0,0",
    "0,0,0,0,0,0\n", "\n0,0,0,0,0,0", "0,0,0,\n0,0,0", "(0,0,0,0,0,0)", "-", "a,b,c,d,e,f", "0,0,0,0,0,1e1", "0" * 1000,
)
NO_WORDS = ("", "--", "-u", "u-", "U", "x", "ux", "uf1", "u,f", "uf\n", "\n", "0", "u" * 1001, "uf" * 501, "ufr" * 400, "~")


def text_of(paints):
    return ",".join(str(paint) for paint in paints)


class SlowShelf:
    """Keeps nothing but the deeds that weren't taken back, and does them all anew at every row."""

    def __init__(self):
        self.deeds = []

    def say(self, row):
        words = row.split(" ")
        if words[0] not in COUNTS or COUNTS[words[0]] != len(words):
            raise NoRow
        self.order, self.paints, self.under = [], {}, {}
        for deed in self.deeds:
            self.do(*deed)
        self.check_words(*words)
        if words[0] == "back":
            if not self.deeds:
                raise NoBack
            self.deeds.pop()
            return "ok"
        if words[0] in ("put", "turn", "paint", "set", "down", "drop"):
            self.check_place(*words)
            self.deeds.append(words)
            return "ok"
        return getattr(self, "ask_" + words[0])(*words[1:])

    def check_words(self, first, *words):
        names = {"put": 1, "turn": 1, "paint": 1, "back": 0, "names": 0}.get(first, len(words))
        for name in words[:names]:
            right = 1 <= len(name) <= 8 and set(name) <= set(LETTERS)
            if not right or (name in self.order) == (first == "put"):
                raise NoName
        if first in ("put", "paint") and not self.is_paints(words[1]):
            raise NoPaints
        if first == "turn" and words[1] != "-":
            if not 1 <= len(words[1]) <= 1000 or set(words[1]) - set("ufr"):
                raise NoWord

    def is_paints(self, word):
        parts = word.split(",")
        digits = all(part and set(part) <= set("0123456789") and len(part) <= 30 for part in parts)
        return digits and len(parts) == 6 and all(str(int(part)) == part for part in parts)

    def check_place(self, first, *words):
        if first == "put" and len(self.order) == 20:
            raise TooMany
        above = [name for name in self.order if self.under[name] == words[-1]]
        if first == "drop" and above:
            raise NoPlace
        if first == "set":
            name, other = words
            if name in self.beneath(other) or (above and above != [name]):
                raise NoPlace

    def beneath(self, name):
        """The name, and all on which it stands."""
        return [] if name is None else [name] + self.beneath(self.under[name])

    def do(self, first, name, *more):
        if first == "put":
            self.order.append(name)
            self.under[name] = None
        if first in ("put", "paint"):
            self.paints[name] = tuple(int(part) for part in more[0].split(","))
        if first == "turn":
            turn = STILL if more[0] == "-" else helper.slow_turn(more[0])
            self.paints[name] = helper.slow_turned(self.paints[name], turn)
        if first == "set":
            self.under[name] = more[0]
        if first == "down":
            self.under[name] = None
        if first == "drop":
            self.order.remove(name)
            del self.paints[name], self.under[name]

    def ask_names(self):
        return " ".join(self.order)

    def ask_show(self, name):
        return text_of(self.paints[name])

    def ask_cube(self, name):
        return text_of(min(helper.slow_looks(self.paints[name])))

    def ask_leave(self, name):
        return str(helper.slow_looks(self.paints[name]).count(self.paints[name]))

    def ask_how(self, name, other):
        for word in helper.short_words():
            if helper.slow_turned(self.paints[name], helper.slow_turn(word)) == self.paints[other]:
                return "turn " + (word or "-")
        pairs = [self.pairs(name), self.pairs(other)]
        if pairs[0] == pairs[1]:
            return "twin"
        return [
            f"pair {low} {high}" for low, high in sorted(set(pairs[0] + pairs[1]))
            if pairs[0].count((low, high)) != pairs[1].count((low, high))
        ]

    def pairs(self, name):
        return sorted(tuple(sorted(self.paints[name][place:place + 2])) for place in (0, 2, 4))

    def ask_pile(self, name):
        pile = [other for other in self.order if self.beneath(other)[-1] == self.beneath(name)[-1]]
        return " ".join(sorted(pile, key=lambda other: len(self.beneath(other))))

    def ask_four(self, name):
        shown = [self.paints[other][2:] for other in self.ask_pile(name).split(" ")]
        return "yes" if all(len(set(seen)) == len(seen) for seen in zip(*shown)) else "no"

    def ask_number(self, name):
        paints = self.paints[name]
        if len(set(paints)) < 6:
            return "none"
        return str(helper.slow_thirty(sorted(paints)).index(min(helper.slow_looks(paints))))

    def ask_twin(self, name, other):
        return "yes" if self.paints[other] in helper.slow_looks(helper.slow_mirrored(self.paints[name])) else "no"


def answer(shelf, row):
    """What is told, or which refusal is raised."""
    try:
        return shelf.say(row)
    except CubeError as refusal:
        return type(refusal)


def questions(names):
    """Every question that can be asked of these names."""
    asked = ["names"]
    for name in names:
        asked += [f"{word} {name}" for word in ("show", "cube", "leave", "pile", "four", "number")]
        asked += [f"{word} {name} {other}" for word in ("how", "twin") for other in names]
    return asked


def told(*rows):
    """A shelf that was told some rows, each ok."""
    shelf = Shelf()
    for row in rows:
        if shelf.say(row) != "ok":
            raise AssertionError(row)
    return shelf


def all_told(shelf):
    """All that a shelf can be asked."""
    return [shelf.say(row) for row in questions(shelf.say("names").split())]


class ShelfCase(unittest.TestCase):
    def says(self, shelf, row, text):
        with self.subTest(row=row):
            answered = shelf.say(row)
            self.assertIs(type(answered), str)
            self.assertEqual(answered, text)

    def refuses(self, shelf, row, kind):
        """A row is refused, and that changes nothing."""
        before = all_told(shelf)
        with self.subTest(row=row):
            with self.assertRaises(kind):
                shelf.say(row)
            self.assertEqual(all_told(shelf), before)


def two():
    return told("put a 0,1,2,3,4,5", "put b 0,1,2,3,5,4")


def pile():
    """From beneath on: a, b, c; and d alone."""
    return told(
        "put a 0,0,0,1,2,3", "put b 0,0,1,2,3,0", "put c 0,0,2,3,0,1", "put d 9,9,9,9,9,9", "set b a", "set c b",
    )


class Deeds(ShelfCase):
    def test_begun_anew(self):
        self.says(Shelf(), "names", "")

    def test_put(self):
        shelf = Shelf()
        self.says(shelf, "put b 0,1,2,3,4,5", "ok")
        self.says(shelf, "put abcdefgh 10,0,99,7,7,0", "ok")
        self.says(shelf, f"put a {text_of((G,) * 6)}", "ok")
        self.says(shelf, "names", "b abcdefgh a")
        self.says(shelf, "show b", "0,1,2,3,4,5")
        self.says(shelf, "show abcdefgh", "10,0,99,7,7,0")
        self.says(shelf, "show a", text_of((G,) * 6))
        self.says(shelf, "pile a", "a")

    def test_turn(self):
        for word in ("-", "u", "f", "r", "uf", "fu", "rrr", "ufrufr", "uuuu"):
            shelf = two()
            self.says(shelf, f"turn a {word}", "ok")
            turn = helper.slow_turn(word.replace("-", ""))
            self.says(shelf, "show a", text_of(helper.slow_turned((0, 1, 2, 3, 4, 5), turn)))
            self.says(shelf, "show b", "0,1,2,3,5,4")

    def test_turn_by_a_thousand_letters(self):
        for word in ("u" * 1000, "ufr" * 333 + "u", "rf" * 500):
            shelf = two()
            self.says(shelf, f"turn a {word}", "ok")
            self.says(shelf, "show a", text_of(helper.slow_turned((0, 1, 2, 3, 4, 5), helper.slow_turn(word))))
            self.refuses(shelf, f"turn a {word}u", NoWord)

    def test_turned_beneath_others(self):
        shelf = pile()
        self.says(shelf, "turn b u", "ok")
        self.says(shelf, "show a", "0,0,0,1,2,3")
        self.says(shelf, "show b", text_of(helper.slow_turned((0, 0, 1, 2, 3, 0), helper.QUARTERS["u"])))
        self.says(shelf, "show c", "0,0,2,3,0,1")
        self.says(shelf, "pile b", "a b c")

    def test_paint(self):
        shelf = pile()
        self.says(shelf, f"paint b 5,6,7,8,9,{G}", "ok")
        self.says(shelf, "show b", f"5,6,7,8,9,{G}")
        self.says(shelf, "pile a", "a b c")
        self.says(shelf, "names", "a b c d")
        self.says(shelf, "show c", "0,0,2,3,0,1")

    def test_set(self):
        shelf = pile()
        self.says(shelf, "pile c", "a b c")
        self.says(shelf, "set b d", "ok")
        self.says(shelf, "pile c", "d b c")
        self.says(shelf, "pile a", "a")
        self.says(shelf, "set d a", "ok")
        self.says(shelf, "pile d", "a d b c")
        self.says(shelf, "names", "a b c d")

    def test_set_where_it_stands(self):
        shelf = pile()
        self.says(shelf, "set b a", "ok")
        self.says(shelf, "set c b", "ok")
        self.says(shelf, "pile a", "a b c")

    def test_down(self):
        shelf = pile()
        self.says(shelf, "down b", "ok")
        self.says(shelf, "pile a", "a")
        self.says(shelf, "pile b", "b c")
        self.says(shelf, "down b", "ok")
        self.says(shelf, "pile c", "b c")
        self.says(shelf, "down c", "ok")
        self.says(shelf, "pile c", "c")

    def test_drop(self):
        shelf = pile()
        self.says(shelf, "drop c", "ok")
        self.says(shelf, "names", "a b d")
        self.says(shelf, "pile a", "a b")
        self.refuses(shelf, "show c", NoName)
        self.says(shelf, "drop b", "ok")
        self.says(shelf, "drop a", "ok")
        self.says(shelf, "drop d", "ok")
        self.says(shelf, "names", "")

    def test_put_again_comes_last(self):
        shelf = pile()
        self.says(shelf, "drop c", "ok")
        self.says(shelf, "put c 1,1,1,1,1,1", "ok")
        self.says(shelf, "names", "a b d c")
        self.says(shelf, "pile c", "c")
        self.says(shelf, "show c", "1,1,1,1,1,1")

    def test_twenty_cubes(self):
        shelf = Shelf()
        for letter in LETTERS[:20]:
            self.says(shelf, f"put {letter} 0,0,0,0,0,0", "ok")
        self.refuses(shelf, "put z 0,0,0,0,0,0", TooMany)
        self.says(shelf, "names", " ".join(LETTERS[:20]))
        for lower, upper in zip(LETTERS, LETTERS[1:20]):
            self.says(shelf, f"set {upper} {lower}", "ok")
        self.says(shelf, "pile k", " ".join(LETTERS[:20]))
        self.refuses(shelf, "set a t", NoPlace)
        self.says(shelf, "drop t", "ok")
        self.says(shelf, "put z 0,0,0,0,0,0", "ok")
        self.refuses(shelf, "put y 0,0,0,0,0,0", TooMany)
        self.says(shelf, "back", "ok")
        self.says(shelf, "put y 0,0,0,0,0,0", "ok")


class Back(ShelfCase):
    def test_behind_each_deed(self):
        for deed in (
            "put e 1,2,3,4,5,6", "turn a uf", "paint b 7,7,7,7,7,7", "set d c", "set b d", "set a d", "down b", "down c",
            "drop c", "drop d",
        ):
            shelf = pile()
            before = all_told(shelf)
            self.says(shelf, deed, "ok")
            self.assertNotEqual(all_told(shelf), before)
            self.says(shelf, "back", "ok")
            self.assertEqual(all_told(shelf), before)

    def test_behind_a_deed_that_changed_nothing(self):
        for deed in ("turn a -", "turn d ufr", "turn a uuuu", "paint d 9,9,9,9,9,9", "set b a", "down a", "down d"):
            shelf = pile()
            before = all_told(shelf)
            self.says(shelf, deed, "ok")
            self.assertEqual(all_told(shelf), before)
            self.says(shelf, "back", "ok")
            self.assertEqual(all_told(shelf), before)
            # The next one takes back what was done ahead of it: c was set on b.
            self.says(shelf, "back", "ok")
            self.says(shelf, "pile a", "a b")

    def test_to_the_first_deed(self):
        shelf = Shelf()
        states = []
        for row in (
            "put a 0,1,2,3,4,5", "put b 5,4,3,2,1,0", "set a b", "turn b u", "put c 1,1,1,1,1,1", "set b c", "down a", "drop a",
            "put a 8,8,8,8,8,8", "paint c 2,2,2,2,2,2",
        ):
            states.append(all_told(shelf))
            self.says(shelf, row, "ok")
        while states:
            self.says(shelf, "back", "ok")
            self.assertEqual(all_told(shelf), states.pop())
        self.refuses(shelf, "back", NoBack)

    def test_a_dropped_one_stands_in_its_order_again(self):
        shelf = told("put a 0,0,0,0,0,0", "put b 1,1,1,1,1,1", "put c 2,2,2,2,2,2", "set b c", "drop b")
        self.says(shelf, "names", "a c")
        self.says(shelf, "back", "ok")
        self.says(shelf, "names", "a b c")
        self.says(shelf, "pile b", "c b")
        self.says(shelf, "show b", "1,1,1,1,1,1")

    def test_what_was_taken_back_is_gone(self):
        shelf = two()
        self.says(shelf, "turn a u", "ok")
        self.says(shelf, "back", "ok")
        self.says(shelf, "turn b f", "ok")
        self.says(shelf, "back", "ok")
        self.says(shelf, "back", "ok")
        self.says(shelf, "names", "a")

    def test_questions_and_refusals_are_no_deeds(self):
        shelf = two()
        for row in questions(["a", "b"]):
            shelf.say(row)
        for row in ("put a 0,0,0,0,0,0", "drop z", "set a a", "none", "turn a x"):
            with self.assertRaises(CubeError):
                shelf.say(row)
        self.says(shelf, "back", "ok")
        self.says(shelf, "names", "a")

    def test_of_none(self):
        self.refuses(Shelf(), "back", NoBack)
        shelf = told("put a 0,0,0,0,0,0", "back")
        self.refuses(shelf, "back", NoBack)
        self.says(shelf, "put a 0,0,0,0,0,0", "ok")

    def test_far_back_soon(self):
        with helper.soon(self):
            shelf = told(*[f"put {letter} 0,1,2,3,4,5" for letter in LETTERS[:20]])
            for trial in range(3000):
                shelf.say("turn a uf")
            for trial in range(3000):
                shelf.say("back")
            self.says(shelf, "show a", "0,1,2,3,4,5")
            self.says(shelf, "back", "ok")
            self.says(shelf, "names", " ".join(LETTERS[:19]))


class Questions(ShelfCase):
    def test_show_and_cube(self):
        for paints in helper.some_paints()[::5]:
            shelf = told(f"put a {text_of(paints)}")
            self.says(shelf, "show a", text_of(paints))
            self.says(shelf, "cube a", text_of(min(helper.slow_looks(paints))))

    def test_leave(self):
        seen = set()
        own = [(0, 1, 2, 3, 4, 5), (0, 0, 0, 0, 0, 0), (0, 0, 1, 1, 1, 1), (0, 0, 1, 1, 2, 2)]
        for paints in helper.some_paints()[::3] + own:
            many = helper.slow_looks(paints).count(paints)
            self.says(told(f"put a {text_of(paints)}"), "leave a", str(many))
            seen.add(many)
        self.assertLessEqual({1, 2, 4, 8, 24}, seen)

    def test_how_by_a_turn(self):
        for paints in ((0, 1, 2, 3, 4, 5), (G, 1, 2, 3, 4, 5)):
            for word in helper.short_words():
                shelf = told(f"put a {text_of(paints)}", f"put b {text_of(paints)}", f"turn b {word or '-'}")
                least = [
                    other for other in helper.short_words()
                    if helper.slow_turn(other) == helper.slow_turn(word)
                ][0]
                self.says(shelf, "how a b", f"turn {least or '-'}")

    def test_how_by_the_shortest_of_several_turns(self):
        for paints in helper.some_paints()[:64:3] + [(0, 0, 1, 1, 2, 2), (0, 0, 1, 2, 3, 4)]:
            for turn in helper.TURNS[::3]:
                other = helper.slow_turned(paints, turn)
                shelf = told(f"put a {text_of(paints)}", f"put b {text_of(other)}")
                least = [
                    word for word in helper.short_words() if helper.slow_turned(paints, helper.slow_turn(word)) == other
                ][0]
                self.says(shelf, "how a b", f"turn {least or '-'}")
        self.says(told("put a 7,7,7,7,7,7"), "how a a", "turn -")

    def test_how_of_a_cube_and_itself(self):
        self.says(two(), "how a a", "turn -")

    def test_how_by_a_pair(self):
        for one, other in (
            ((0, 1, 2, 3, 4, 5), (0, 2, 1, 3, 4, 5)), ((0,) * 6, (1,) * 6), ((0, 0, 1, 1, 2, 2), (0, 1, 0, 1, 2, 2)),
            ((G, 1, 2, 3, 4, 5), (0, 1, 2, 3, 4, 5)), ((0, 1, 2, 3, 4, 5), (0, 1, 2, 3, 4, G)),
        ):
            shelf = told(f"put a {text_of(one)}", f"put b {text_of(other)}")
            for row, first, second in (("how a b", one, other), ("how b a", other, one)):
                word, low, high = shelf.say(row).split(" ")
                self.assertEqual(word, "pair")
                self.assertEqual((low, high), (str(int(low)), str(int(high))))
                self.assertIsNone(alike_judged(first, second, ("pair", int(low), int(high))))

    def test_how_by_twins(self):
        self.says(two(), "how a b", "twin")
        self.says(two(), "how b a", "twin")
        self.says(told("put a 0,1,0,2,1,2", "put b 0,1,0,2,2,1"), "how a b", "twin")

    def test_pile(self):
        shelf = pile()
        for name in ("a", "b", "c"):
            self.says(shelf, f"pile {name}", "a b c")
        self.says(shelf, "pile d", "d")
        self.says(told("put z 0,0,0,0,0,0", "put y 0,0,0,0,0,0", "set z y"), "pile z", "y z")

    def test_four(self):
        shelf = pile()
        for name in ("a", "b", "c", "d"):
            self.says(shelf, f"four {name}", "yes")
        self.says(shelf, "set d c", "ok")
        self.says(shelf, "four a", "yes")
        right = (0, 0, 2, 3, 0, 1)
        for side in (2, 3, 4, 5):
            for name, own in (("a", (0, 0, 0, 1, 2, 3)), ("b", (0, 0, 1, 2, 3, 0)), ("d", (9,) * 6)):
                same = right[:side] + (own[side],) + right[side + 1:]
                self.says(shelf, f"paint c {text_of(same)}", "ok")
                for asked in ("a", "b", "c", "d"):
                    self.says(shelf, f"four {asked}", "no")
        # What is above and beneath isn't looked at; nor are other piles.
        self.says(shelf, "paint c 9,9,2,3,0,1", "ok")
        self.says(shelf, "four c", "yes")
        self.says(shelf, "put e 9,9,9,9,9,9", "ok")
        self.says(shelf, "four e", "yes")
        self.says(shelf, "four a", "yes")

    def test_number(self):
        for six in ((0, 1, 2, 3, 4, 5), (0, 3, 20, 100, G - 1, G)):
            for number, paints in enumerate(helper.slow_thirty(six)):
                for look in helper.slow_looks(paints)[::7]:
                    self.says(told(f"put a {text_of(look)}"), "number a", str(number))
        for paints in ((0, 0, 1, 2, 3, 4), (0,) * 6, (5, 4, 3, 2, 1, 5), (G,) * 6):
            self.says(told(f"put a {text_of(paints)}"), "number a", "none")

    def test_twin(self):
        shelf = two()
        self.says(shelf, "twin a b", "yes")
        self.says(shelf, "twin b a", "yes")
        self.says(shelf, "twin a a", "no")
        self.says(shelf, "turn b ufr", "ok")
        self.says(shelf, "twin a b", "yes")
        self.says(shelf, "paint b 0,0,1,2,3,4", "ok")
        self.says(shelf, "twin b b", "yes")
        self.says(shelf, "twin a b", "no")


class Refused(ShelfCase):
    def test_rows(self):
        for row in (
            "", " ", "  ", "none", "Names", "NAMES", "names ", " names", "names a", "names  ", "back ", " back", "back a", "say",
            "put", "put x", "put x 0,0,0,0,0,0 ", "put x 0,0,0,0,0,0 y", "put  x 0,0,0,0,0,0", "put x 0, 0,0,0,0,0", "turn",
            "turn a", "turn a u u", "paint a", "paint a 0,0,0,0,0,0 0", "set a", "set a b c", "set a  b", "down", "down a b",
            "drop", "drop a b", "show", "show a b", "show  a", "cube", "cube a b", "leave", "leave a b", "how", "how a",
            "how a b c", "pile", "pile a b", "four", "four a b", "number", "number a b", "twin", "twin a", "twin a b a",
            "names\n", "\nnames", "show\na", "back\n", "turned a u", "puts x 0,0,0,0,0,0", "a", "~",
        ):
            self.refuses(two(), row, NoRow)
            self.refuses(Shelf(), row, NoRow)

    def test_names(self):
        for name in NO_NAMES + ("c", "aa", "ab", "names", "abcdefgh"):
            shelf = two()
            for word in ONE_NAME:
                self.refuses(shelf, f"{word} {name}", NoName)
            for word in TWO_NAMES:
                self.refuses(shelf, f"{word} {name} a", NoName)
                self.refuses(shelf, f"{word} a {name}", NoName)
                self.refuses(shelf, f"{word} {name} {name}", NoName)
            self.refuses(shelf, f"turn {name} u", NoName)
            self.refuses(shelf, f"paint {name} 0,0,0,0,0,0", NoName)

    def test_names_for_put(self):
        for name in NO_NAMES + ("a", "b"):
            self.refuses(two(), f"put {name} 0,0,0,0,0,0", NoName)
        for name in ("c", "z", "ab", "abcdefgh", "zzzzzzzz", "put", "names", "back"):
            shelf = two()
            self.says(shelf, f"put {name} 0,0,0,0,0,0", "ok")
            self.says(shelf, "names", f"a b {name}")
            self.refuses(shelf, f"put {name} 0,0,0,0,0,0", NoName)

    def test_paints(self):
        for word in NO_PAINTS:
            self.refuses(two(), f"put c {word}", NoPaints)
            self.refuses(two(), f"paint a {word}", NoPaints)

    def test_words(self):
        for word in NO_WORDS:
            self.refuses(two(), f"turn a {word}", NoWord)

    def test_names_ahead_of_what_stands_behind(self):
        for name in NO_NAMES + ("z",):
            self.refuses(two(), f"paint {name} none", NoName)
            self.refuses(two(), f"turn {name} none", NoName)
        self.refuses(two(), "put a none", NoName)
        self.refuses(two(), "put A none", NoName)
        self.refuses(two(), "put  ", NoName)

    def test_too_many(self):
        full = told(*[f"put {letter} 0,0,0,0,0,0" for letter in LETTERS[:20]])
        self.refuses(full, "put z 1,2,3,4,5,6", TooMany)
        self.refuses(full, "put a 1,2,3,4,5,6", NoName)
        self.refuses(full, "put Z 1,2,3,4,5,6", NoName)
        self.refuses(full, "put z 1,2,3,4,5", NoPaints)
        self.refuses(full, "put z", NoRow)

    def test_no_place_to_set(self):
        shelf = pile()
        for row in ("set a a", "set c c", "set a b", "set a c", "set b c", "set d a", "set d b", "set c a"):
            self.refuses(shelf, row, NoPlace)
        self.refuses(shelf, "set a z", NoName)
        self.refuses(shelf, "set z z", NoName)
        self.says(shelf, "set d c", "ok")
        for row in ("set a d", "set b d", "set d a", "set d b", "set c a"):
            self.refuses(shelf, row, NoPlace)

    def test_no_place_to_drop(self):
        shelf = pile()
        self.refuses(shelf, "drop a", NoPlace)
        self.refuses(shelf, "drop b", NoPlace)
        self.refuses(shelf, "drop z", NoName)
        self.says(shelf, "down b", "ok")
        self.says(shelf, "drop a", "ok")

    def test_no_back(self):
        self.refuses(Shelf(), "back", NoBack)
        self.refuses(Shelf(), "back a", NoRow)


class Together(ShelfCase):
    def drawn_row(self, draw, names):
        word = sorted(COUNTS)[draw(len(COUNTS))]
        if draw(3) == 0:
            word = ("put", "set", "back", "set")[draw(4)]
        name = names[draw(len(names))]
        if word in ("put", "paint"):
            paints = tuple(draw(3 + 4 * draw(2)) for side in range(6))
            return f"{word} {name} {text_of(paints) if draw(12) else NO_PAINTS[draw(len(NO_PAINTS))]}"
        if word == "turn":
            quarters = "".join("ufr"[draw(3)] for letter in range(draw(6))) or "-"
            return f"turn {name} {quarters if draw(12) else NO_WORDS[draw(len(NO_WORDS))]}"
        words = [word] + [names[draw(len(names))] for place in range(COUNTS[word] - 1)]
        return " ".join(words if draw(20) else words + ["a"])

    def same(self, shelf, slow, row):
        """Both tell the same; of several pairs that bar, any."""
        one, other = answer(shelf, row), answer(slow, row)
        with self.subTest(row=row):
            if isinstance(other, list):
                self.assertIn(one, other)
            else:
                self.assertEqual(one, other)
        return one

    def test_drawn_rows_against_a_slow_shelf(self):
        seen = set()
        for seed in range(12):
            draw = helper.chances(seed)
            names = list("abcdef") + (["A", "abcdefghi", ""] if seed % 2 else [])
            shelf, slow = Shelf(), SlowShelf()
            for trial in range(150):
                seen.add(self.same(shelf, slow, self.drawn_row(draw, names)))
            for row in questions(shelf.say("names").split()):
                self.same(shelf, slow, row)
        self.assertLessEqual({"ok", NoRow, NoName, NoPaints, NoWord, NoPlace, "yes", "no"}, seen)

    def test_what_one_begun_anew_tells(self):
        for seed in range(6):
            draw = helper.chances(seed + 100)
            shelf, deeds = Shelf(), []
            for trial in range(120):
                row = self.drawn_row(draw, list("abcdefgh"))
                if answer(shelf, row) == "ok":
                    if row == "back":
                        deeds.pop()
                    else:
                        deeds.append(row)
                if trial % 10 == 0:
                    self.assertEqual(all_told(told(*deeds)), all_told(shelf))
            anew = told(*deeds)
            self.assertEqual(all_told(anew), all_told(shelf))
            for deed in deeds:
                self.assertEqual((shelf.say("back"), anew.say("back")), ("ok", "ok"))
                self.assertEqual(all_told(anew), all_told(shelf))
            self.refuses(shelf, "back", NoBack)

    def test_two_shelves_do_not_touch_one_another(self):
        one, other = pile(), Shelf()
        self.says(other, "names", "")
        self.says(other, "put a 7,7,7,7,7,7", "ok")
        self.says(one, "show a", "0,0,0,1,2,3")
        self.says(other, "back", "ok")
        self.says(one, "names", "a b c d")
        self.refuses(other, "back", NoBack)
        self.says(one, "back", "ok")
        self.says(one, "pile a", "a b")

    def test_of_the_same_the_same_is_told(self):
        shelf = pile()
        self.assertEqual(all_told(shelf), all_told(shelf))
        self.assertEqual(all_told(shelf), all_told(pile()))

    def test_by_place_and_by_name_alike(self):
        shelf = Shelf()
        self.assertEqual(shelf.say(row="put a 0,1,2,3,4,5"), "ok")
        self.assertEqual(shelf.say(row="show a"), shelf.say("show a"))
        with self.assertRaises(NoRow):
            shelf.say(row="none")
