"""Point [17], and the interface's part leansay/lineworks.py."""

import random
import unittest
from fractions import Fraction

from leansay.lines import stays
from leansay.lineworks import added, cut_off, greater_line, lesser_line, raised, turned
from plans import height_on, line_fault, pair, places_on, some_line

ONE = (1, 1)
HALF = (1, 2)
TENT = ((HALF, 2, 0), (ONE, -2, 2))
RISING = ((ONE, 1, 0),)
FALLING = ((ONE, -1, 1),)
NOUGHT = ((ONE, 0, 0),)
ALL = ((ONE, 0, 1),)
NINE = 10 ** 9 - 1


def cut(height):
    return min(max(height, Fraction(0)), Fraction(1))


class Works(unittest.TestCase):
    # At the ends of all lines and wherever two rules meet the heights are as they should be, and between these too.
    def assert_means(self, told, lines, heights):
        self.assertIsNone(line_fault(told), told)
        for x in places_on(told, ((ONE, 0, 0),), ((ONE, 0, 1),), *lines):
            self.assertEqual(height_on(told, x), heights(*[height_on(line, x) for line in lines]), (lines, x))

    def assert_all_works(self, one, other):
        self.assert_means(added(one, other), (one, other), lambda first, second: first + second)
        self.assert_means(greater_line(one, other), (one, other), max)
        self.assert_means(lesser_line(one, other), (one, other), min)
        self.assert_means(turned(one), (one,), lambda height: -height)
        self.assert_means(cut_off(one), (one,), cut)
        for by in (-3, -1, 0, 1, 2):
            self.assert_means(raised(one, by), (one,), lambda height: height + by)

    def test_added_by_hand(self):
        self.assertEqual(added(RISING, RISING), ((ONE, 2, 0),))
        self.assertEqual(added(RISING, FALLING), ALL)
        self.assertEqual(added(TENT, RISING), ((HALF, 3, 0), (ONE, -1, 2)))
        self.assertEqual(added(TENT, (((1, 3), 3, 0), (ONE, 0, 1))), (((1, 3), 5, 0), (HALF, 2, 1), (ONE, -2, 3)))
        self.assertEqual(added(TENT, ((HALF, 0, 0), (ONE, 4, -2))), ((ONE, 2, 0),))

    def test_turned_and_raised_by_hand(self):
        self.assertEqual(turned(TENT), ((HALF, -2, 0), (ONE, 2, -2)))
        self.assertEqual(turned(NOUGHT), NOUGHT)
        self.assertEqual(turned(turned(TENT)), TENT)
        self.assertEqual(raised(TENT, 3), ((HALF, 2, 3), (ONE, -2, 5)))
        self.assertEqual(raised(TENT, -1), ((HALF, 2, -1), (ONE, -2, 1)))
        self.assertEqual(raised(TENT, 0), TENT)
        self.assertEqual(raised(ALL, -10 ** 20), ((ONE, 0, 1 - 10 ** 20),))

    def test_lines_that_cross(self):
        self.assertEqual(greater_line(RISING, FALLING), ((HALF, -1, 1), (ONE, 1, 0)))
        self.assertEqual(lesser_line(RISING, FALLING), ((HALF, 1, 0), (ONE, -1, 1)))
        self.assertEqual(greater_line(FALLING, RISING), ((HALF, -1, 1), (ONE, 1, 0)))
        self.assertEqual(greater_line(TENT, RISING), (((HALF), 2, 0), ((2, 3), -2, 2), (ONE, 1, 0)))
        self.assertEqual(lesser_line(TENT, RISING), (((2, 3), 1, 0), (ONE, -2, 2)))
        self.assertEqual(lesser_line(TENT, FALLING), (((1, 3), 2, 0), (ONE, -1, 1)))
        self.assertEqual(greater_line(((ONE, 3, -1),), ALL), (((2, 3), 0, 1), (ONE, 3, -1)))

    def test_lines_that_meet_at_an_end(self):
        self.assertEqual(greater_line(TENT, ALL), ALL)
        self.assertEqual(lesser_line(TENT, ALL), TENT)
        self.assertEqual(greater_line(((HALF, 2, 0), (ONE, 0, 1)), TENT), ((HALF, 2, 0), (ONE, 0, 1)))
        self.assertEqual(lesser_line(((HALF, 2, 0), (ONE, 0, 1)), TENT), TENT)
        self.assertEqual(greater_line(RISING, NOUGHT), RISING)
        self.assertEqual(lesser_line(RISING, NOUGHT), NOUGHT)
        self.assertEqual(greater_line(FALLING, NOUGHT), FALLING)
        self.assertEqual(greater_line(((HALF, 2, 0), (ONE, 4, -1)), ((HALF, 4, -1), (ONE, 2, 0))),
                         ((HALF, 2, 0), (ONE, 4, -1)))
        self.assertEqual(lesser_line(((HALF, 2, 0), (ONE, 4, -1)), ((HALF, 4, -1), (ONE, 2, 0))),
                         ((HALF, 4, -1), (ONE, 2, 0)))

    def test_neighbours_that_become_one(self):
        self.assertEqual(greater_line(((HALF, 2, 0), (ONE, 0, 1)), ((HALF, 0, 1), (ONE, 2, 0))),
                         ((HALF, 0, 1), (ONE, 2, 0)))
        self.assertEqual(greater_line(((HALF, 1, 0), (ONE, -1, 1)), ((HALF, -1, 1), (ONE, 1, 0))),
                         ((HALF, -1, 1), (ONE, 1, 0)))
        self.assertEqual(greater_line(((HALF, 1, 0), (ONE, -1, 1)), RISING), RISING)
        self.assertEqual(lesser_line(((HALF, -1, 1), (ONE, 1, 0)), RISING), RISING)
        self.assertEqual(greater_line(TENT, ((ONE, 0, 5),)), ((ONE, 0, 5),))

    def test_a_line_and_itself(self):
        chance = random.Random(60)
        for count in (1, 2, 7, 60):
            line = some_line(chance, count, range(2, 40))
            self.assertEqual(added(line, turned(line)), NOUGHT)
            self.assertEqual(greater_line(line, line), line)
            self.assertEqual(lesser_line(line, line), line)
            self.assertEqual(added(line, line), tuple((end, 2 * slope, 2 * height) for end, slope, height in line))
            self.assertEqual(added(line, NOUGHT), line)

    def test_lines_apart(self):
        chance = random.Random(61)
        for count in (1, 3, 12):
            line = some_line(chance, count)
            far = raised(some_line(chance, count), 1000)
            self.assertEqual(greater_line(line, far), far)
            self.assertEqual(greater_line(far, line), far)
            self.assertEqual(lesser_line(line, far), line)
            self.assertEqual(lesser_line(far, line), line)

    def test_cut_off_by_hand(self):
        self.assertEqual(cut_off(((ONE, 0, 7),)), ALL)
        self.assertEqual(cut_off(((ONE, -5, -2),)), NOUGHT)
        self.assertEqual(cut_off(((ONE, 0, 10 ** 20),)), ALL)
        self.assertEqual(cut_off(((ONE, 3, -1),)), (((1, 3), 0, 0), ((2, 3), 3, -1), (ONE, 0, 1)))
        self.assertEqual(cut_off(((ONE, -3, 2),)), (((1, 3), 0, 1), ((2, 3), -3, 2), (ONE, 0, 0)))
        self.assertEqual(cut_off(((ONE, 2, 0),)), ((HALF, 2, 0), (ONE, 0, 1)))
        self.assertEqual(cut_off(((ONE, 1, -1),)), NOUGHT)
        self.assertEqual(cut_off(((ONE, 1, 1),)), ALL)
        self.assertEqual(cut_off(((HALF, 4, 0), (ONE, -4, 4))), (((1, 4), 4, 0), ((3, 4), 0, 1), (ONE, -4, 4)))
        self.assertEqual(cut_off(((HALF, 2, 0), (ONE, -4, 3))), ((HALF, 2, 0), ((3, 4), -4, 3), (ONE, 0, 0)))

    def test_cut_off_of_a_line_that_stays(self):
        for line in (NOUGHT, ALL, RISING, FALLING, TENT):
            self.assertEqual(cut_off(line), line)
        chance = random.Random(62)
        for k in range(60):
            line = cut_off(some_line(chance, chance.randrange(1, 12)))
            self.assertIs(stays(line), True)
            self.assertEqual(cut_off(line), line)

    def test_many(self):
        chance = random.Random(63)
        for k in range(60):
            one = some_line(chance, chance.randrange(1, 9), (2, 3, 4, 5, 6), chance.choice((1, 2)))
            other = some_line(chance, chance.randrange(1, 9), (2, 3, 4, 5, 6), chance.choice((1, 2)))
            with self.subTest((one, other)):
                self.assert_all_works(one, other)

    def test_sixty_stretches(self):
        chance = random.Random(64)
        one = some_line(chance, 60, range(2, 40), 1)
        other = some_line(chance, 60, range(2, 40), 1)
        self.assertEqual(line_fault(greater_line(one, other)), None)
        for told, work in ((added(one, other), lambda first, second: first + second),
                           (greater_line(one, other), max), (lesser_line(one, other), min)):
            self.assertIsNone(line_fault(told))
            ends = [Fraction(*stretch[0]) for line in (one, other, told) for stretch in line]
            for x in sorted(set(ends + [Fraction(k, 997) for k in range(998)])):
                self.assertEqual(height_on(told, x), work(height_on(one, x), height_on(other, x)))

    def test_slopes_and_heights_of_nine_figures(self):
        steep = ((ONE, NINE, 0),)
        other = ((ONE, -NINE, NINE),)
        line = (((1, NINE), NINE, 0), (ONE, 0, 1))
        far = (((NINE - 1, NINE), 0, 0), (ONE, NINE, 1 - NINE))
        for one in (steep, other, line, far, raised(line, -NINE), turned(far)):
            for second in (steep, other, line, far):
                self.assert_all_works(one, second)
        self.assertEqual(cut_off(steep), line)
        self.assertEqual(greater_line(steep, other), ((HALF, -NINE, NINE), (ONE, NINE, 0)))
        self.assertEqual(greater_line(line, far), line)
        self.assertEqual(lesser_line(line, far), far)

    def test_what_was_told_of_any_size(self):
        saw = tuple((pair(Fraction(j, 1024)), 1024 if j % 2 else -1024, 1 - j if j % 2 else j) for j in range(1, 1025))
        self.assertIsNone(line_fault(saw))
        both = greater_line(saw, raised(turned(saw), 1))
        self.assertEqual(len(both), 2048)
        self.assertIsNone(line_fault(both))
        self.assertEqual(lesser_line(both, NOUGHT), NOUGHT)
        self.assertEqual(added(both, turned(both)), NOUGHT)
        self.assertEqual(cut_off(both), both)


if __name__ == "__main__":
    unittest.main()
