"""Point [20], and the interface's part leansay/straights.py."""

import unittest
from fractions import Fraction

from leansay.errors import NoLine
from leansay.lineworks import cut_off
from leansay.meanings import line_of_rows
from leansay.rows import rows_fault, worth_of_rows
from leansay.straights import straight_rows
from plans import height_on

FAR = (10 ** 19, 10 ** 20 - 1, 10 ** 60)


class StraightRows(unittest.TestCase):
    def assert_rows(self, slope, height):
        rows = straight_rows(slope, height)
        self.assertIs(type(rows), list)
        self.assertIsNone(rows_fault(rows))
        self.assertLessEqual(len(rows), 400)
        self.assertNotIn(("q",), rows)
        line = line_of_rows(rows)
        self.assertEqual(line, cut_off((((1, 1), slope, height),)), (slope, height))
        for i in range(13):
            wanted = min(max(slope * Fraction(i, 12) + height, Fraction(0)), Fraction(1))
            self.assertEqual(height_on(line, Fraction(i, 12)), wanted)

    def test_each_slope_and_height(self):
        for slope in range(-12, 13):
            for height in range(-14, 15):
                with self.subTest((slope, height)):
                    self.assert_rows(slope, height)

    def test_heights_far_away(self):
        for slope in range(-12, 13):
            for height in FAR:
                self.assert_rows(slope, height)
                self.assert_rows(slope, -height)

    def test_worths(self):
        for slope in (-12, -5, -1, 0, 1, 7, 12):
            for height in range(-13, 14):
                rows = straight_rows(slope, height)
                for n, x in ((1, 0), (1, 1), (5, 2), (24, 7), (10 ** 60 - 1, 10 ** 59)):
                    wanted = min(max(slope * x + height * n, 0), n)
                    self.assertEqual(worth_of_rows(rows, (n, x, 0)), wanted)

    def test_too_steep(self):
        for slope in (13, -13, 14, -14, 10 ** 20 - 1, 1 - 10 ** 20):
            for height in (-14, -1, 0, 1, 14, 10 ** 20 - 1):
                with self.assertRaises(NoLine) as caught:
                    straight_rows(slope, height)
                self.assertEqual((caught.exception.word, caught.exception.at), ("steep", 0))

    def test_a_new_list_each_time(self):
        for slope, height in ((0, 0), (0, 1), (3, -1), (-3, 2)):
            first = straight_rows(slope, height)
            wanted = list(first)
            first.append(None)
            first[0] = "changed"
            self.assertEqual(straight_rows(slope, height), wanted)


if __name__ == "__main__":
    unittest.main()
