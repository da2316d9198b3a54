"""Point 4: fractions."""

import itertools
import unittest
from fractions import Fraction
from math import gcd

from standup.errors import NoNumber
from standup.ratios import below, minus, over, plus, ratio, times

HUGE = 10 ** 3000 + 7
FRACTIONS = sorted({(Fraction(top, bottom).numerator, Fraction(top, bottom).denominator)
                    for top in range(-5, 6) for bottom in range(1, 6)})
LONG = [(3 ** 700, 2 ** 1200), (-(7 ** 900), 10 ** 301), (HUGE, 1), (1, HUGE), (-1, HUGE), (0, 1)]


def pairs():
    return list(itertools.product(FRACTIONS, FRACTIONS)) + list(itertools.product(LONG, LONG))


class Form(unittest.TestCase):
    def check_form(self, made):
        self.assertIs(type(made), tuple)
        self.assertEqual([type(number) for number in made], [int, int])
        self.assertGreaterEqual(made[1], 1)
        self.assertEqual(gcd(made[0], made[1]), 1)


class Made(Form):
    def test_lowest_terms_of_either_sign(self):
        for top in range(-30, 31):
            for bottom in list(range(-30, 0)) + list(range(1, 31)):
                made = ratio(top, bottom)
                self.check_form(made)
                self.assertEqual(made[0] * bottom, top * made[1])

    def test_by_hand(self):
        self.assertEqual(ratio(6, 4), (3, 2))
        self.assertEqual(ratio(-6, 4), (-3, 2))
        self.assertEqual(ratio(6, -4), (-3, 2))
        self.assertEqual(ratio(-6, -4), (3, 2))
        self.assertEqual(ratio(5, 1), (5, 1))
        self.assertEqual(ratio(5, -1), (-5, 1))
        self.assertEqual(ratio(12, 12), (1, 1))

    def test_nought(self):
        for bottom in (1, -1, 9, -9, HUGE, -HUGE):
            self.assertEqual(ratio(0, bottom), (0, 1))

    def test_any_count_of_figures(self):
        self.assertEqual(ratio(HUGE * 6, HUGE * -4), (-3, 2))
        self.assertEqual(ratio(HUGE * 10 ** 9, HUGE * HUGE), (10 ** 9, HUGE))
        self.assertEqual(ratio(-(10 ** 9000), 10 ** 9001), (-1, 10))
        self.assertEqual(ratio(2 ** 20000 * 3, 2 ** 20001), (3, 2))

    def test_a_second_number_of_nought_is_refused(self):
        for top in (0, 1, -1, HUGE, -HUGE):
            with self.assertRaises(NoNumber):
                ratio(top, 0)


class Reckoned(Form):
    def check_all(self, call, expected):
        for one, other in pairs():
            made = call(one, other)
            self.check_form(made)
            self.assertEqual(Fraction(*made), expected(Fraction(*one), Fraction(*other)), (one, other))

    def test_sums(self):
        self.check_all(plus, lambda one, other: one + other)
        self.assertEqual(plus((1, 6), (1, 3)), (1, 2))
        self.assertEqual(plus((1, 2), (-1, 2)), (0, 1))

    def test_differences_are_one_less_other(self):
        self.check_all(minus, lambda one, other: one - other)
        self.assertEqual(minus((1, 6), (1, 3)), (-1, 6))
        self.assertEqual(minus((2, 7), (2, 7)), (0, 1))

    def test_products(self):
        self.check_all(times, lambda one, other: one * other)
        self.assertEqual(times((2, 3), (-3, 4)), (-1, 2))
        self.assertEqual(times((2, 3), (0, 1)), (0, 1))

    def test_quotients(self):
        for one, other in pairs():
            if other != (0, 1):
                made = over(one, other)
                self.check_form(made)
                self.assertEqual(Fraction(*made), Fraction(*one) / Fraction(*other))
        self.assertEqual(over((2, 3), (-4, 3)), (-1, 2))
        self.assertEqual(over((0, 1), (-4, 3)), (0, 1))

    def test_a_quotient_by_nought_is_refused(self):
        for one in FRACTIONS + LONG:
            with self.assertRaises(NoNumber):
                over(one, (0, 1))


class Below(unittest.TestCase):
    def test_true_just_where_the_first_is_less(self):
        for one, other in pairs():
            self.assertIs(below(one, other), Fraction(*one) < Fraction(*other))

    def test_never_of_itself(self):
        for one in FRACTIONS + LONG:
            self.assertIs(below(one, one), False)

    def test_below_nought(self):
        self.assertIs(below((-1, 2), (-1, 3)), True)
        self.assertIs(below((-1, 3), (-1, 2)), False)
        self.assertIs(below((-1, 2), (0, 1)), True)
        self.assertIs(below((0, 1), (-1, 2)), False)

    def test_close_numbers_of_many_figures(self):
        self.assertIs(below((HUGE, HUGE + 1), (HUGE + 1, HUGE + 2)), True)
        self.assertIs(below((HUGE + 1, HUGE + 2), (HUGE, HUGE + 1)), False)


if __name__ == "__main__":
    unittest.main()
