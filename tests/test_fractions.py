import unittest
from fractions import Fraction

from samples import odd_things, pair
from unseen.fractions import below, is_fraction, is_whole, made, plus, times

VALUES = [Fraction(a, b) for a in range(-7, 8) for b in range(1, 8)]
LARGE = [Fraction(10 ** 30 + 1, 10 ** 20), Fraction(-10 ** 30, 3), Fraction(1, 10 ** 30)]


class TestFractions(unittest.TestCase):
    def check(self, told, value):
        self.assertEqual(told, pair(value))
        self.assertIs(type(told), tuple)
        self.assertEqual([type(part) for part in told], [int, int])

    def test_nought_is_nought_over_one(self):
        for b in (1, 2, 7, 100, 10 ** 30):
            self.check(made(0, b), Fraction(0))
            self.assertEqual(made(0, b), (0, 1))

    def test_made_is_in_lowest_terms(self):
        self.assertEqual(made(6, 4), (3, 2))
        self.assertEqual(made(-6, 4), (-3, 2))
        self.assertEqual(made(4, 2), (2, 1))
        self.assertEqual(made(-1, 3), (-1, 3))
        self.assertEqual(made(100, 100), (1, 1))
        for a in range(-40, 41):
            for b in range(1, 41):
                self.check(made(a, b), Fraction(a, b))

    def test_made_of_large_numbers(self):
        self.check(made(10 ** 40, 10 ** 30), Fraction(10 ** 10))
        self.check(made(-3 * 10 ** 40, 7 * 10 ** 40), Fraction(-3, 7))

    def test_plus(self):
        self.assertEqual(plus((1, 2), (1, 2)), (1, 1))
        self.assertEqual(plus((1, 2), (-1, 2)), (0, 1))
        self.assertEqual(plus((1, 6), (1, 3)), (1, 2))
        for one in VALUES + LARGE:
            for other in VALUES + LARGE:
                self.check(plus(pair(one), pair(other)), one + other)

    def test_times(self):
        self.assertEqual(times((2, 3), (3, 2)), (1, 1))
        self.assertEqual(times((0, 1), (-5, 7)), (0, 1))
        self.assertEqual(times((-1, 2), (-1, 2)), (1, 4))
        for one in VALUES + LARGE:
            for other in VALUES + LARGE:
                self.check(times(pair(one), pair(other)), one * other)

    def test_below(self):
        self.assertIs(below((1, 3), (1, 2)), True)
        self.assertIs(below((1, 2), (1, 2)), False)
        self.assertIs(below((-1, 2), (-1, 3)), True)
        self.assertIs(below((0, 1), (-1, 100)), False)
        for one in VALUES + LARGE:
            for other in VALUES + LARGE:
                self.assertIs(below(pair(one), pair(other)), one < other)

    def test_what_is_a_fraction(self):
        for value in VALUES + LARGE:
            self.assertTrue(is_fraction(pair(value)))

    def test_what_is_no_fraction(self):
        pairs = [(2, 4), (0, 2), (1, 0), (0, 0), (1, -2), (-2, -4), (0, -1), (True, 2), (1, True), (False, 1),
                 (1.0, 2), (1, 2.0), (1,), (1, 2, 3), [1, 2], ("1", "2"), (None, 1)]
        for thing in pairs + odd_things():
            self.assertFalse(is_fraction(thing), repr(thing))

    def test_true_and_false_are_no_numbers(self):
        self.assertTrue(is_whole(0))
        self.assertTrue(is_whole(-10 ** 30))
        for thing in (True, False, 1.0, "1", None, (1,), [1]):
            self.assertFalse(is_whole(thing), repr(thing))


if __name__ == "__main__":
    unittest.main()
