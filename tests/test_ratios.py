"""The fractions that the book reckons in, held against Python's own."""

import unittest
from fractions import Fraction

from wholeowners.ratios import HALF, ONE, ZERO, common_divisor, is_above, lowest, minus, plus, times

LONG = 10 ** 29 + 319


def told(fraction):
    return (fraction.numerator, fraction.denominator)


def some():
    small = [Fraction(top, bottom) for top in range(-6, 7) for bottom in range(1, 8)]
    long = [Fraction(top, bottom) for top in (-LONG, LONG - 2, LONG) for bottom in (1, 6, LONG - 1, 10 ** 30 - 1)]
    return sorted(set(small + long))


class Ratios(unittest.TestCase):

    def test_zero_half_and_one(self):
        self.assertEqual((ZERO, HALF, ONE), ((0, 1), (1, 2), (1, 1)))

    def test_common_divisor(self):
        for row in ((12, 18, 6), (18, 12, 6), (5, 7, 1), (0, 4, 4), (-4, 6, 2), (LONG * 6, LONG * 4, LONG * 2)):
            self.assertEqual(common_divisor(row[0], row[1]), row[2])

    def test_lowest_terms(self):
        for top in (-12, -7, -1, 0, 1, 6, 12, LONG, -LONG * 6):
            for bottom in (1, 2, 6, 35, LONG, LONG * 4):
                self.assertEqual(lowest(top, bottom), told(Fraction(top, bottom)))

    def test_sums_differences_products_and_order(self):
        for one in some():
            for other in some():
                self.assertEqual(plus(told(one), told(other)), told(one + other))
                self.assertEqual(minus(told(one), told(other)), told(one - other))
                self.assertEqual(times(told(one), told(other)), told(one * other))
                self.assertIs(is_above(told(one), told(other)), one > other)


if __name__ == "__main__":
    unittest.main()
