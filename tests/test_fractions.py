import math
import unittest
from fractions import Fraction

from glazetold.fractions import NOUGHT, common_measure, figures, fraction, is_whole


class WholeTest(unittest.TestCase):
    def test_whole_numbers(self):
        for thing in (0, 1, -1, 10 ** 40, -(10 ** 40)):
            self.assertIs(is_whole(thing), True, thing)

    def test_others(self):
        for thing in (True, False, None, "1", "", [1], (1,), (1, 1)):
            self.assertIs(is_whole(thing), False, thing)


class MeasureTest(unittest.TestCase):
    def test_small_numbers(self):
        for one in range(40):
            for other in range(40):
                self.assertEqual(common_measure(one, other), math.gcd(one, other))

    def test_great_numbers(self):
        self.assertEqual(common_measure(6 * 10 ** 300, 15 * 10 ** 299), math.gcd(6 * 10 ** 300, 15 * 10 ** 299))


class FractionTest(unittest.TestCase):
    def test_lowest_terms(self):
        for top in range(-30, 31):
            for bottom in range(1, 31):
                expected = Fraction(top, bottom)
                self.assertEqual(fraction(top, bottom), (expected.numerator, expected.denominator))

    def test_nought(self):
        self.assertEqual(NOUGHT, (0, 1))
        self.assertEqual(fraction(0, 12), NOUGHT)

    def test_it_is_a_tuple_of_whole_numbers(self):
        told = fraction(4, 6)
        self.assertIs(type(told), tuple)
        self.assertEqual([type(number) for number in told], [int, int])


class FiguresTest(unittest.TestCase):
    def test_as_python_writes_them(self):
        for number in (0, 1, 9, 10, 100, 10 ** 63, 10 ** 64 - 1, 10 ** 64, 10 ** 64 + 5, 10 ** 128, 7 ** 400):
            self.assertEqual(figures(number), str(number))

    def test_more_figures_than_python_writes_at_once(self):
        self.assertEqual(figures(10 ** 9000 + 42), "1" + "0" * 8998 + "42")
