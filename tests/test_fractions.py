"""Point [4] and the interface's part leansay/fractions.py."""

import math
import random
import unittest
from fractions import Fraction

from leansay.errors import NoNumber, SayError
from leansay.fractions import fraction, less, minus, plus, times, written

SMALL = range(-12, 13)
SIXTY = 10 ** 60 - 1


def some_numbers(count):
    chance = random.Random(4)
    return [chance.choice((1, -1)) * chance.randrange(10 ** chance.choice((1, 3, 20, 60))) for k in range(count)]


def some_fractions(count):
    numbers = some_numbers(2 * count)
    return [fraction(top, bottom or 1) for top, bottom in zip(numbers[:count], numbers[count:])]


def as_told(number):
    return (number.numerator, number.denominator)


def as_fraction(told):
    return Fraction(told[0], told[1])


class FractionCase(unittest.TestCase):
    def assert_told(self, told, wanted):
        self.assertIs(type(told), tuple)
        self.assertEqual([type(number) for number in told], [int, int])
        self.assertEqual(told, wanted)


class Made(FractionCase):
    def test_the_documents_own(self):
        self.assert_told(fraction(6, -4), (-3, 2))
        self.assert_told(fraction(0, 1), (0, 1))

    def test_both_signs(self):
        self.assert_told(fraction(6, 4), (3, 2))
        self.assert_told(fraction(-6, 4), (-3, 2))
        self.assert_told(fraction(6, -4), (-3, 2))
        self.assert_told(fraction(-6, -4), (3, 2))

    def test_top_0(self):
        for bottom in (1, -1, 2, -7, 60, SIXTY, -SIXTY):
            with self.subTest(bottom):
                self.assert_told(fraction(0, bottom), (0, 1))

    def test_whole_ones(self):
        self.assert_told(fraction(7, 1), (7, 1))
        self.assert_told(fraction(7, -1), (-7, 1))
        self.assert_told(fraction(-12, 4), (-3, 1))
        self.assert_told(fraction(5, 5), (1, 1))
        self.assert_told(fraction(5, -5), (-1, 1))

    def test_lowest_terms_of_all_small_ones(self):
        for top in SMALL:
            for bottom in SMALL:
                if bottom != 0:
                    with self.subTest(top=top, bottom=bottom):
                        self.assert_told(fraction(top, bottom), as_told(Fraction(top, bottom)))

    def test_sixty_figures(self):
        self.assert_told(fraction(SIXTY, SIXTY), (1, 1))
        self.assert_told(fraction(SIXTY, -SIXTY), (-1, 1))
        self.assert_told(fraction(SIXTY, SIXTY - 1), (SIXTY, SIXTY - 1))
        self.assert_told(fraction(-(10 ** 59), 2 * 10 ** 58), (-5, 1))
        factor = 10 ** 29 + 7
        self.assert_told(fraction(-3 * factor ** 2, -6 * factor), (factor, 2))

    def test_lowest_terms_of_many_sizes(self):
        numbers = some_numbers(600)
        for top, bottom in zip(numbers[:300], numbers[300:]):
            if bottom != 0:
                with self.subTest(top=top, bottom=bottom):
                    told = fraction(top, bottom)
                    self.assert_told(told, as_told(Fraction(top, bottom)))
                    self.assertGreater(told[1], 0)
                    self.assertEqual(math.gcd(told[0], told[1]), 1)

    def test_bottom_0_is_refused(self):
        for top in (0, 1, -1, 6, SIXTY, -SIXTY):
            with self.subTest(top), self.assertRaises(NoNumber) as refused:
                fraction(top, 0)
            self.assertIsInstance(refused.exception, SayError)


class Reckoned(FractionCase):
    def test_by_hand(self):
        self.assert_told(plus((1, 6), (1, 3)), (1, 2))
        self.assert_told(plus((1, 2), (-1, 2)), (0, 1))
        self.assert_told(minus((1, 2), (1, 3)), (1, 6))
        self.assert_told(minus((1, 3), (1, 2)), (-1, 6))
        self.assert_told(minus((1, 6), (2, 3)), (-1, 2))
        self.assert_told(times((2, 3), (-3, 4)), (-1, 2))
        self.assert_told(times((0, 1), (-3, 4)), (0, 1))

    def test_one_less_itself(self):
        for one in some_fractions(60) + [(0, 1), (1, 1), (-3, 2), (SIXTY, SIXTY - 1)]:
            with self.subTest(one):
                self.assert_told(minus(one, one), (0, 1))

    def test_against_pythons_own(self):
        many = [fraction(top, bottom) for top in (-6, -1, 0, 2, 9) for bottom in (1, 4, 6)] + some_fractions(20)
        for one in many:
            for other in many:
                with self.subTest(one=one, other=other):
                    self.assert_told(plus(one, other), as_told(as_fraction(one) + as_fraction(other)))
                    self.assert_told(minus(one, other), as_told(as_fraction(one) - as_fraction(other)))
                    self.assert_told(times(one, other), as_told(as_fraction(one) * as_fraction(other)))


class Compared(unittest.TestCase):
    def test_either_way_round(self):
        rising = [(-SIXTY, 1), (-2, 1), (-3, 2), (-1, 1), (-1, 3), (0, 1), (1, SIXTY), (1, 3), (1, 2), (2, 3),
                  (SIXTY - 1, SIXTY), (1, 1), (SIXTY, SIXTY - 1), (3, 2), (7, 1), (SIXTY, 1)]
        for k, one in enumerate(rising):
            for m, other in enumerate(rising):
                with self.subTest(one=one, other=other):
                    self.assertIs(less(one, other), k < m)

    def test_against_pythons_own(self):
        many = some_fractions(40)
        for one in many:
            for other in many:
                with self.subTest(one=one, other=other):
                    self.assertIs(less(one, other), as_fraction(one) < as_fraction(other))


class Written(unittest.TestCase):
    def test_the_documents_own(self):
        self.assertEqual(written((-3, 2)), "-3/2")
        self.assertEqual(written((7, 1)), "7")

    def test_edges(self):
        self.assertEqual(written((0, 1)), "0")
        self.assertEqual(written((-7, 1)), "-7")
        self.assertEqual(written((1, 10)), "1/10")
        self.assertEqual(written((10, 11)), "10/11")

    def test_around_sixty_figures(self):
        for number in (10 ** 59, SIXTY, 10 ** 60, 10 ** 60 + 7, 7 * 10 ** 60 - 1, 10 ** 120 - 1, 10 ** 120,
                       10 ** 120 + 10 ** 61):
            with self.subTest(number):
                self.assertEqual(written((number, 1)), str(number))
                self.assertEqual(written((-number, 1)), "-" + str(number))
                self.assertEqual(written((1, number)), "1/" + str(number))

    def test_what_was_told_of_any_size(self):
        one = fraction(-1, 10)
        for k in range(13):
            one = times(one, one)
        self.assertEqual(written(one), "1/1" + "0" * 8192)
        self.assertEqual(written(minus((0, 1), fraction(one[1], 1))), "-1" + "0" * 8192)


if __name__ == "__main__":
    unittest.main()
