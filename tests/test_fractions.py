"""Promises 2 and 5: fractions, reckoned with, written and read."""

import math
import unittest
from fractions import Fraction

from dueworth.errors import BadText
from dueworth.fractions import fraction, less, minus, plus, read_fraction, show_fraction, times, whole
from samples import pair

TOPS = tuple(range(-13, 14)) + (-2520, 2520, 999, 10 ** 6, -(10 ** 6), 10 ** 40, -(3 ** 90))
BOTTOMS = tuple(n for n in range(-13, 14) if n) + (2520, -2520, 10 ** 6, 6 ** 50, -(10 ** 40))

FRACTIONS = sorted({pair(Fraction(top, bottom)) for top in range(-7, 8) for bottom in range(1, 8)})
FRACTIONS = FRACTIONS + [(10 ** 6, 2519), (-(10 ** 6), 2519), (10 ** 60 + 1, 3 ** 80), (-(10 ** 700), 7)]


def written_plainly(text):
    """Whether a text is the one that Python's own fractions have for what it tells."""
    try:
        return str(Fraction(text)) == text
    except (ValueError, ZeroDivisionError):
        return False


class TestReckoning(unittest.TestCase):
    def assert_fraction(self, told, worth):
        self.assertEqual(told, pair(worth))
        self.assertEqual([type(told), type(told[0]), type(told[1])], [tuple, int, int])

    def test_fraction_of_two_whole_numbers(self):
        for top in TOPS:
            for bottom in BOTTOMS:
                told = fraction(top, bottom)
                self.assert_fraction(told, Fraction(top, bottom))
                self.assertGreaterEqual(told[1], 1)
                self.assertEqual(math.gcd(told[0], told[1]), 1)

    def test_nought(self):
        for bottom in BOTTOMS:
            self.assertEqual(fraction(0, bottom), (0, 1))
        self.assertEqual(minus((5, 3), (5, 3)), (0, 1))
        self.assertEqual(plus((-5, 3), (5, 3)), (0, 1))
        self.assertEqual(times((0, 1), (-5, 3)), (0, 1))

    def test_written_out(self):
        self.assertEqual(fraction(6, 4), (3, 2))
        self.assertEqual(fraction(6, -4), (-3, 2))
        self.assertEqual(fraction(-6, -4), (3, 2))
        self.assertEqual(fraction(-6, 4), (-3, 2))
        self.assertEqual(plus((1, 6), (1, 3)), (1, 2))
        self.assertEqual(minus((1, 6), (2, 3)), (-1, 2))
        self.assertEqual(times((-2, 3), (3, 4)), (-1, 2))

    def test_plus_minus_times_less(self):
        for one in FRACTIONS:
            for other in FRACTIONS:
                here = Fraction(*one)
                there = Fraction(*other)
                self.assert_fraction(plus(one, other), here + there)
                self.assert_fraction(minus(one, other), here - there)
                self.assert_fraction(times(one, other), here * there)
                self.assertIs(less(one, other), here < there)

    def test_less_of_itself(self):
        for one in FRACTIONS:
            self.assertIs(less(one, one), False)

    def test_whole(self):
        for one in FRACTIONS:
            self.assertEqual(whole(one), math.floor(Fraction(*one)))
            self.assertIs(type(whole(one)), int)
        self.assertEqual([whole((-7, 2)), whole((7, 2)), whole((-4, 1)), whole((-1, 9))], [-4, 3, -4, -1])
        self.assertEqual([whole((0, 1)), whole((1, 9)), whole((4, 1))], [0, 0, 4])


class TestTexts(unittest.TestCase):
    def assert_refused(self, text):
        with self.assertRaises(BadText) as caught:
            read_fraction(text)
        self.assertIs(type(caught.exception), BadText)
        self.assertEqual(caught.exception.row, 0)

    def test_written(self):
        written = {
            (0, 1): "0", (1, 1): "1", (-1, 1): "-1", (10, 1): "10", (3, 2): "3/2", (-3, 2): "-3/2",
            (1, 10): "1/10", (100, 9): "100/9", (-100, 2519): "-100/2519",
        }
        for one, text in written.items():
            self.assertEqual(show_fraction(one), text)
            self.assertEqual(read_fraction(text), one)

    def test_what_is_written_is_read_again(self):
        for one in FRACTIONS:
            text = show_fraction(one)
            told = read_fraction(text)
            self.assertEqual(text, str(Fraction(*one)))
            self.assertEqual(told, one)
            self.assertEqual([type(text), type(told), type(told[0]), type(told[1])], [str, tuple, int, int])

    def test_any_size(self):
        for count in (59, 60, 61, 119, 120, 121, 1499, 5000):
            figures = "1" + "0" * (count - 1)
            nines = "9" * count
            number = 10 ** (count - 1)
            self.assertEqual(show_fraction((number, 1)), figures)
            self.assertEqual(read_fraction(figures), (number, 1))
            self.assertEqual(show_fraction((1 - 10 * number, number)), "-" + nines + "/" + figures)
            self.assertEqual(read_fraction("-" + nines + "/" + figures), (1 - 10 * number, number))
            self.assert_refused("0" + figures)
            self.assert_refused(figures + "/" + figures)

    def test_refused(self):
        refused = (
            "", "-", "/", "-/", "--1", "-0", "0/1", "-0/1", "0/2", "-0/2", "0/0", "1/0", "1/1", "7/1", "-7/1",
            "2/4", "-2/4", "4/2", "9/3", "6/6", "00", "01", "-01", "000", "1/02", "01/2", "1/00", "1/-2", "-1/-2",
            "+1", "+0", "1/+2", "+1/2", " 1", "1 ", "1 /2", "1/ 2", " ", "- 1", "1\n", "\n1", "1/2\n", "1/2/3",
            "1//2", "/2", "1/", "-/2", "1/2/", "/1/2", "a", "1a", "a1", "0x1", "1_0", "1.0", "1e3", "1,0", "1-",
            "1/2-", "1-2", "\u0661", "1/\u0662", "\u00b2", "\uff11", "1/\uff12", "\u0967/2", "1(", "1)", "True",
        )
        for text in refused:
            with self.subTest(text=text):
                self.assert_refused(text)

    def test_each_pair_of_figures(self):
        for top in range(0, 40):
            for bottom in range(0, 40):
                text = str(top) + "/" + str(bottom)
                if bottom > 1 and math.gcd(top, bottom) == 1:
                    self.assertEqual(read_fraction(text), (top, bottom))
                    self.assertEqual(read_fraction("-" + text), (-top, bottom))
                else:
                    self.assert_refused(text)
                    self.assert_refused("-" + text)

    def test_a_sign_put_in_or_taken_out(self):
        for one in ((0, 1), (10, 1), (-3, 2), (12, 35), (-100, 9)):
            text = show_fraction(one)
            near = [text[:place] + text[place + 1:] for place in range(len(text))]
            for sign in "01/-+ \n.a":
                near.extend([text[:place] + sign + text[place:] for place in range(len(text) + 1)])
            for other in near:
                if written_plainly(other):
                    self.assertEqual(show_fraction(read_fraction(other)), other)
                else:
                    self.assert_refused(other)

    def test_asked_again(self):
        for again in range(3):
            self.assertEqual(read_fraction("3/2"), (3, 2))
            self.assert_refused("3/1")
            self.assertEqual(plus((1, 2), (1, 2)), (1, 1))


if __name__ == "__main__":
    unittest.main()
