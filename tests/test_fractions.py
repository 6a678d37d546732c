import math
import random
import unittest
from fractions import Fraction

from glazetold.fractions import NOUGHT, common_measure, common_multiple, figures, fraction, is_whole, rising


class WholeTest(unittest.TestCase):
    def test_whole_numbers(self):
        for thing in (0, 1, -1, 10 ** 40, -(10 ** 40)):
            self.assertIs(is_whole(thing), True, thing)

    def test_others(self):
        for thing in (True, False, None, "1", "", [1], (1,), (1, 1)):
            self.assertIs(is_whole(thing), False, thing)


class MeasureTest(unittest.TestCase):
    def test_small_numbers(self):
        for one in range(40):
            for other in range(40):
                self.assertEqual(common_measure(one, other), math.gcd(one, other))

    def test_great_numbers(self):
        self.assertEqual(common_measure(6 * 10 ** 300, 15 * 10 ** 299), math.gcd(6 * 10 ** 300, 15 * 10 ** 299))


class MultipleTest(unittest.TestCase):
    def test_small_numbers(self):
        for one in range(1, 40):
            for other in range(1, 40):
                self.assertEqual(common_multiple(one, other), math.lcm(one, other))


class FractionTest(unittest.TestCase):
    def test_lowest_terms(self):
        for top in range(-30, 31):
            for bottom in range(1, 31):
                expected = Fraction(top, bottom)
                self.assertEqual(fraction(top, bottom), (expected.numerator, expected.denominator))

    def test_nought(self):
        self.assertEqual(NOUGHT, (0, 1))
        self.assertEqual(fraction(0, 12), NOUGHT)

    def test_it_is_a_tuple_of_whole_numbers(self):
        told = fraction(4, 6)
        self.assertIs(type(told), tuple)
        self.assertEqual([type(number) for number in told], [int, int])


class RisingTest(unittest.TestCase):
    def assert_rising(self, told):
        kept = list(told)
        self.assertEqual(rising(told), sorted(told, key=lambda pair: Fraction(*pair)))
        self.assertEqual(told, kept)

    def test_none(self):
        self.assertEqual(rising([]), [])

    def test_small_ones(self):
        told = sorted({fraction(top, bottom) for bottom in range(1, 20) for top in range(bottom + 1)})
        random.Random(1).shuffle(told)
        self.assert_rising(told)

    def test_neighbours_that_are_as_near_as_can_be(self):
        for bottom in (2, 3, 10, 10 ** 40, 10 ** 400):
            for one, other in (((1, bottom), (1, bottom + 1)), ((bottom - 1, bottom), (bottom, bottom + 1))):
                self.assert_rising([one, other])
                self.assert_rising([other, one])
                self.assert_rising([(1, 1), one, (0, 1), other])


class FiguresTest(unittest.TestCase):
    def test_as_python_writes_them(self):
        for number in (0, 1, 9, 10, 100, 10 ** 63, 10 ** 64 - 1, 10 ** 64, 10 ** 64 + 5, 10 ** 128, 7 ** 400):
            self.assertEqual(figures(number), str(number))

    def test_more_figures_than_python_writes_at_once(self):
        self.assertEqual(figures(10 ** 9000 + 42), "1" + "0" * 8998 + "42")
