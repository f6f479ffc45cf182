import unittest

from thirtycubes import errors

PLAIN = (
    "NoTurn", "NoWord", "NoPaints", "NoPalette", "NoCounts", "NoNumber", "NoFit", "NoCubes", "NoSix", "NoCube",
    "NoChange", "NoRow", "NoName", "TooMany", "NoPlace", "NoBack", "NoBase", "NoPaper",
)
NAMES = PLAIN + ("NoStock", "NoText")


def made(name):
    """An object of each class, in the shortest way in which it is made."""
    kind = getattr(errors, name)
    return kind(0) if name == "NoStock" else kind()


class Family(unittest.TestCase):
    def test_there_are_twenty(self):
        self.assertEqual(len(set(NAMES)), 20)

    def test_cube_error_stands_straight_under_value_error(self):
        self.assertEqual(errors.CubeError.__bases__, (ValueError,))

    def test_each_stands_straight_under_cube_error(self):
        for name in NAMES:
            with self.subTest(name=name):
                self.assertEqual(getattr(errors, name).__bases__, (errors.CubeError,))

    def test_none_is_another_one(self):
        for name in NAMES:
            for other in NAMES:
                with self.subTest(name=name, other=other):
                    self.assertEqual(isinstance(made(name), getattr(errors, other)), name == other)


class Raised(unittest.TestCase):
    def test_each_is_caught_by_both(self):
        for name in NAMES:
            for caught in (errors.CubeError, ValueError):
                with self.subTest(name=name, caught=caught):
                    with self.assertRaises(caught):
                        raise made(name)

    def test_made_with_nothing_or_with_a_text(self):
        for name in PLAIN + ("CubeError",):
            kind = getattr(errors, name)
            with self.subTest(name=name):
                self.assertIsInstance(kind(), errors.CubeError)
                self.assertIn("why it is so", str(kind("why it is so")))
                with self.assertRaises(kind):
                    raise kind("why it is so")


class Values(unittest.TestCase):
    def test_no_stock_keeps_at(self):
        for at in (0, 1, 29, 1000):
            self.assertEqual(errors.NoStock(at).at, at)
            self.assertEqual(errors.NoStock(at=at).at, at)

    def test_no_stock_is_made_with_at_alone(self):
        with self.assertRaises(TypeError):
            errors.NoStock()

    def test_no_text_keeps_row(self):
        for row in (0, 1, 100, 1000):
            self.assertEqual(errors.NoText(row).row, row)
            self.assertEqual(errors.NoText(row=row).row, row)

    def test_no_text_has_row_0_where_none_is_told(self):
        self.assertEqual(errors.NoText().row, 0)

    def test_values_are_set_on_each_object(self):
        first, second = errors.NoText(3), errors.NoText(5)
        self.assertEqual((first.row, second.row, errors.NoText().row), (3, 5, 0))
        low, high = errors.NoStock(2), errors.NoStock(7)
        self.assertEqual((low.at, high.at), (2, 7))

    def test_values_are_there_where_caught(self):
        with self.assertRaises(errors.CubeError) as caught:
            raise errors.NoStock(4)
        self.assertEqual(caught.exception.at, 4)
        with self.assertRaises(errors.CubeError) as caught:
            raise errors.NoText(6)
        self.assertEqual(caught.exception.row, 6)
