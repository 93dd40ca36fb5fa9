"""Points [22], [23] and [24], and the interface's part leansay/hulls.py."""

import random
import unittest
from fractions import Fraction

from leansay.errors import NoCut, SayError
from leansay.hulls import cut, square, told_by
from plans import SIXTY, SQUARE, amid, area, hull_fault, parts_of, some_hulls, some_points, some_rule

NINE = 10 ** 9 - 1


class Square(unittest.TestCase):
    def test_four_corners(self):
        self.assertEqual(square(), SQUARE)
        self.assertIsNone(hull_fault(square()))

    def test_a_new_list_each_time(self):
        first = square()
        first.append(None)
        first[0] = "changed"
        self.assertEqual(square(), SQUARE)


class ToldBy(unittest.TestCase):
    def test_small_numbers(self):
        for rule, point, wanted in (((0, 0, 0), (7, 5, 3), 0), ((1, 0, 0), (7, 5, 3), 5), ((0, 1, 0), (7, 5, 3), 3),
                                    ((0, 0, 1), (7, 5, 3), 7), ((2, -3, 1), (7, 5, 3), 8), ((-1, -1, 1), (7, 5, 3), -1),
                                    ((-2, 0, 1), (4, 2, 1), 0), ((1, 10, 100), (1, 0, 1), 110)):
            told = told_by(rule, point)
            self.assertEqual(told, wanted)
            self.assertIs(type(told), int)

    def test_numbers_of_sixty_figures(self):
        self.assertEqual(told_by((1, 0, 0), (SIXTY, 3, 5)), 3)
        self.assertEqual(told_by((NINE, -NINE, NINE), (SIXTY, SIXTY, 0)), 2 * NINE * SIXTY)
        self.assertEqual(told_by((-NINE, -NINE, NINE), (SIXTY, SIXTY, 1)), -NINE)

    def test_many(self):
        chance = random.Random(70)
        for n, x, y in some_points(chance, 100):
            a, b, c = some_rule(chance, chance.choice((3, NINE)))
            self.assertEqual(told_by((a, b, c), (n, x, y)), a * x + b * y + c * n)
            self.assertEqual(told_by((a, b, c), (7 * n, 7 * x, 7 * y)), 7 * told_by((a, b, c), (n, x, y)))


class Cut(unittest.TestCase):
    def assert_cut(self, hull, rule):
        kept = list(hull)
        told = cut(hull, rule)
        self.assertIs(type(told), tuple)
        self.assertEqual(told, parts_of(hull, rule), (hull, rule))
        self.assertEqual(hull, kept)
        self.assertEqual(area(told[0]) + area(told[1]), area(hull))
        for part, sign in zip(told, (-1, 1)):
            self.assertIsNone(hull_fault(part), (hull, rule))
            self.assertTrue(all(sign * told_by(rule, corner) >= 0 for corner in part))
            self.assertGreater(sign * told_by(rule, amid(part)), 0)
        return told

    def test_through_two_corners(self):
        self.assertEqual(cut(SQUARE, (1, -1, 0)),
                         ([(1, 0, 0), (1, 1, 1), (1, 0, 1)], [(1, 0, 0), (1, 1, 0), (1, 1, 1)]))
        self.assertEqual(cut(SQUARE, (1, 1, -1)),
                         ([(1, 0, 0), (1, 1, 0), (1, 0, 1)], [(1, 1, 0), (1, 1, 1), (1, 0, 1)]))
        self.assertEqual(cut(SQUARE, (-3, 3, 0)),
                         ([(1, 0, 0), (1, 1, 0), (1, 1, 1)], [(1, 0, 0), (1, 1, 1), (1, 0, 1)]))

    def test_through_a_corner_and_a_side(self):
        self.assertEqual(cut(SQUARE, (2, -1, 0)),
                         ([(1, 0, 0), (2, 1, 2), (1, 0, 1)], [(1, 0, 0), (1, 1, 0), (1, 1, 1), (2, 1, 2)]))
        self.assertEqual(cut(SQUARE, (3, 1, -1)),
                         ([(1, 0, 0), (3, 1, 0), (1, 0, 1)], [(3, 1, 0), (1, 1, 0), (1, 1, 1), (1, 0, 1)]))
        self.assertEqual(cut(SQUARE, (1, -3, 0)),
                         ([(1, 0, 0), (3, 3, 1), (1, 1, 1), (1, 0, 1)], [(1, 0, 0), (1, 1, 0), (3, 3, 1)]))

    def test_through_two_sides(self):
        self.assertEqual(cut(SQUARE, (3, 0, -1)),
                         ([(1, 0, 0), (3, 1, 0), (3, 1, 3), (1, 0, 1)], [(3, 1, 0), (1, 1, 0), (1, 1, 1), (3, 1, 3)]))
        self.assertEqual(cut(SQUARE, (0, 3, -2)),
                         ([(1, 0, 0), (1, 1, 0), (3, 3, 2), (3, 0, 2)], [(3, 3, 2), (1, 1, 1), (1, 0, 1), (3, 0, 2)]))
        self.assertEqual(cut(SQUARE, (2, 3, -1)),
                         ([(1, 0, 0), (2, 1, 0), (3, 0, 1)], [(2, 1, 0), (1, 1, 0), (1, 1, 1), (1, 0, 1), (3, 0, 1)]))
        self.assertEqual(cut(SQUARE, (-2, -3, 4)),
                         ([(3, 3, 2), (1, 1, 1), (2, 1, 2)], [(1, 0, 0), (1, 1, 0), (3, 3, 2), (2, 1, 2), (1, 0, 1)]))

    def test_a_common_part_is_taken_out(self):
        self.assertEqual(cut(SQUARE, (6, 0, -3)),
                         ([(1, 0, 0), (2, 1, 0), (2, 1, 2), (1, 0, 1)], [(2, 1, 0), (1, 1, 0), (1, 1, 1), (2, 1, 2)]))
        triangle = cut(SQUARE, (1, 1, -1))[0]
        self.assertEqual(cut(triangle, (1, -1, 0)),
                         ([(1, 0, 0), (2, 1, 1), (1, 0, 1)], [(1, 0, 0), (1, 1, 0), (2, 1, 1)]))
        half = cut(SQUARE, (2, 0, -1))[0]
        self.assertEqual(cut(half, (0, 4, -2))[0], [(1, 0, 0), (2, 1, 0), (2, 1, 1), (2, 0, 1)])

    def test_behind_the_last_corner_stands_the_first(self):
        low, high = cut(SQUARE, (0, 2, -1))
        self.assertEqual(low, [(1, 0, 0), (1, 1, 0), (2, 2, 1), (2, 0, 1)])
        self.assertEqual(high, [(2, 2, 1), (1, 1, 1), (1, 0, 1), (2, 0, 1)])

    def test_many_rules_of_the_square(self):
        chance = random.Random(71)
        counted = 0
        for k in range(400):
            rule = some_rule(chance, chance.choice((2, 5, 30, NINE)))
            if parts_of(SQUARE, rule) is None:
                self.assert_no_cut(SQUARE, rule)
            else:
                self.assert_cut(SQUARE, rule)
                counted += 1
        self.assertGreater(counted, 150)

    def test_cuts_of_what_was_cut(self):
        chance = random.Random(72)
        deepest = 0
        for k in range(40):
            hull = square()
            for depth in range(14):
                rule = some_rule(chance, chance.choice((3, 9, 40)))
                if parts_of(hull, rule) is None:
                    n, x, y = amid(hull)
                    rule = chance.choice(((n, 0, -x), (0, n, -y), (n, -n, y - x), (2 * n, 3 * n, -2 * x - 3 * y)))
                hull = chance.choice(self.assert_cut(hull, rule))
                deepest = max(deepest, len(hull))
        self.assertGreater(deepest, 5)

    def test_all_parts_together_are_the_square(self):
        rules = ((1, -1, 0), (1, 1, -1), (3, 0, -1), (0, 3, -2), (2, 1, -1), (1, -2, 1), (5, 3, -4), (4, -7, 1),
                 (7, 7, -6))
        hulls = [square()]
        for rule in rules:
            cuts = [cut(hull, rule) if parts_of(hull, rule) else (hull,) for hull in hulls]
            hulls = [part for parts in cuts for part in parts]
        self.assertGreater(len(hulls), 30)
        self.assertEqual(sum(area(hull) for hull in hulls), Fraction(1))
        self.assertTrue(all(hull_fault(hull) is None for hull in hulls))

    def test_the_parts_are_lists_of_their_own(self):
        hull = square()
        wanted = parts_of(SQUARE, (2, 1, -1))
        low, high = cut(hull, (2, 1, -1))
        low.append(None)
        low[0] = "changed"
        self.assertEqual(high, wanted[1])
        high.clear()
        self.assertEqual(hull, SQUARE)
        self.assertEqual(cut(hull, (2, 1, -1)), wanted)
        low, high = cut(hull, (2, 1, -1))
        hull.clear()
        self.assertEqual((low, high), wanted)

    def assert_no_cut(self, hull, rule):
        kept = list(hull)
        for asked in (rule, tuple(-number for number in rule)):
            with self.assertRaises(NoCut):
                cut(hull, asked)
        self.assertEqual(hull, kept)

    def test_no_cut_of_the_square(self):
        touching_a_corner = ((1, 1, 0), (1, 1, -2), (1, -1, 1), (1, -1, -1), (3, 2, 0), (2, 5, -7))
        touching_a_side = ((1, 0, 0), (0, 1, 0), (1, 0, -1), (0, 1, -1), (5, 0, 0), (0, 9, -9))
        beside = ((1, 0, 1), (0, 1, -2), (1, 1, 1), (1, 1, -3), (2, 3, 7), (NINE, 0, 1))
        flat = ((0, 0, 0), (0, 0, 1), (0, 0, 7), (0, 0, NINE))
        for rule in touching_a_corner + touching_a_side + beside + flat:
            with self.subTest(rule):
                self.assert_no_cut(SQUARE, rule)

    def test_no_cut_of_what_was_cut(self):
        chance = random.Random(73)
        for hull in some_hulls(chance, 12)[1:]:
            self.assert_no_cut(hull, (0, 0, 0))
            self.assert_no_cut(hull, (0, 0, 3))
            for (m, x, y), (n, v, w) in zip(hull, hull[1:] + hull[:1]):
                side = (y * n - m * w, m * v - x * n, x * w - y * v)
                self.assertEqual((told_by(side, (m, x, y)), told_by(side, (n, v, w))), (0, 0))
                self.assert_no_cut(hull, side)

    def test_what_was_cut_is_not_cut_again_by_the_same_rule(self):
        for rule in ((1, -1, 0), (2, 1, -1), (3, -5, 1)):
            for part in cut(SQUARE, rule):
                self.assert_no_cut(part, rule)

    def test_refused_right_under_say_error(self):
        self.assertEqual(NoCut.__bases__, (SayError,))


if __name__ == "__main__":
    unittest.main()
