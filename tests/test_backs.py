"""Points [3] and [21], and the interface's part leansay/backs.py."""

import unittest
from fractions import Fraction

from leansay.backs import rows_of_line
from leansay.errors import NoLine, SayError
from leansay.lines import stays
from leansay.meanings import line_of, line_of_rows
from leansay.rows import rows_fault, worth_of_rows
from leansay.sayings import Always, Greater, Leads, Less, Lesser, More, Never, Not
from plans import P, SIXTY, height_on, line_fault, made, pair, put_plan, some_plans, staying_lines

ONE = (1, 1)
HALF = (1, 2)
THIRD = (1, 3)
QUARTER = (1, 4)
LATE = (3, 4)
BY_HAND = {
    "all along 0": ((ONE, 0, 0),),
    "all along 1": ((ONE, 0, 1),),
    "rises from 0 to 1": ((ONE, 1, 0),),
    "falls from 1 to 0": ((ONE, -1, 1),),
    "touches 1 once": ((HALF, 2, 0), (ONE, -2, 2)),
    "touches 0 once": ((HALF, -2, 1), (ONE, 2, -1)),
    "a low tent": ((HALF, 1, 0), (ONE, -1, 1)),
    "a shallow pit": ((HALF, -1, 1), (ONE, 1, 0)),
    "runs along 0 at first": ((LATE, 0, 0), (ONE, 4, -3)),
    "runs along 0 at last": ((QUARTER, -4, 1), (ONE, 0, 0)),
    "runs along 1 at first": ((LATE, 0, 1), (ONE, -4, 4)),
    "runs along 1 at last": ((QUARTER, 4, 0), (ONE, 0, 1)),
    "runs along 0 amid": ((QUARTER, -4, 1), (LATE, 0, 0), (ONE, 4, -3)),
    "runs along 1 amid": ((QUARTER, 4, 0), (LATE, 0, 1), (ONE, -4, 4)),
    "rises and falls in turn": ((QUARTER, 4, 0), (HALF, -4, 2), (LATE, 4, -2), (ONE, -4, 4)),
    "falls and rises in turn": ((QUARTER, -4, 1), (HALF, 4, -1), (LATE, -4, 3), (ONE, 4, -3)),
    "one rule twice": ((QUARTER, 0, 0), (HALF, 4, -1), (LATE, -4, 3), (ONE, 0, 0)),
    "six stretches": (((1, 8), 4, 0), (QUARTER, -4, 1), ((3, 8), 4, -1), (HALF, -4, 2), (LATE, 4, -2), (ONE, 0, 1)),
}
EIGHTHS = (((1, 8), 4, 0), (QUARTER, -4, 1), ((3, 8), 4, -1), (HALF, -4, 2), ((5, 8), 4, -2), (LATE, -4, 3),
           ((7, 8), 4, -3), (ONE, -4, 4))


# Rises and falls in turn between 0 and 1, so many stretches with slopes as many.
def zigzag(count):
    line = []
    for k in range(count):
        end = pair(Fraction(k + 1, count))
        line.append((end, count, -k) if k % 2 == 0 else (end, -count, k + 1))
    return tuple(line)


# The line that has at 1 - x the line's height at x.
def mirrored(line):
    starts = [Fraction(0)] + [Fraction(*stretch[0]) for stretch in line[:-1]]
    pieces = reversed(list(zip(starts, line)))
    return tuple((pair(1 - start), -slope, slope + height) for start, (end, slope, height) in pieces)


class LedBack(unittest.TestCase):
    def assert_led_back(self, line):
        rows = rows_of_line(line)
        self.assertIs(type(rows), list)
        self.assertIsNone(rows_fault(rows), line)
        self.assertLessEqual(len(rows), 400)
        self.assertNotIn(("q",), rows)
        self.assertEqual(line_of_rows(rows), line)
        return rows

    def test_by_hand(self):
        for name, line in BY_HAND.items():
            with self.subTest(name):
                self.assertIsNone(line_fault(line))
                rows = self.assert_led_back(line)
                for n in (1, 2, 3, 7, 24, 840, SIXTY):
                    for x in (0, 1, n // 5, n // 3, n // 2, n - n // 7, n - 1, n):
                        wanted = height_on(line, Fraction(x, n)) * n
                        self.assertEqual(worth_of_rows(rows, (n, x, n // 3)), wanted)

    # [3] promises it of each such line, and there are not too many of them to look at all.
    def test_each_line(self):
        counts = {}
        for line in staying_lines(6):
            counts[len(line)] = counts.get(len(line), 0) + 1
            self.assertTrue(line_fault(line) is None and stays(line), line)
            self.assert_led_back(line)
        self.assertEqual(sorted(counts), [1, 2, 3, 4, 5, 6])
        self.assertGreater(min(counts[count] for count in (4, 5, 6)), 1000)

    def test_asked_twice(self):
        for line in BY_HAND.values():
            first = rows_of_line(line)
            wanted = list(first)
            self.assertEqual(rows_of_line(line), wanted)
            first[0] = "changed"
            first.append(None)
            self.assertEqual(rows_of_line(line), wanted)
            first.clear()
            self.assertEqual(rows_of_line(line), wanted)

    def test_lines_of_sayings(self):
        led = 0
        for plan in some_plans(300, range(1, 20)):
            line = line_of(made(put_plan(plan, ("p",), ("p",))))
            if len(line) <= 6 and all(abs(stretch[1]) <= 4 for stretch in line):
                self.assert_led_back(line)
                led += 1
        self.assertGreater(led, 200)

    def test_sayings_by_hand(self):
        doubled = More(P, P)
        for saying in (Never(), Always(), P, Not(P), doubled, Less(P, P), Greater(P, Not(P)), Lesser(P, Not(P)),
                       Leads(P, Not(P)), Leads(doubled, P), More(doubled, doubled), Less(doubled, Not(P)),
                       Lesser(doubled, More(Not(P), Not(P))), Leads(Less(P, P), Greater(P, Not(doubled)))):
            self.assert_led_back(line_of(saying))


class Refused(unittest.TestCase):
    def assert_refused(self, line, word, at):
        self.assertIsNone(line_fault(line), line)
        with self.assertRaises(NoLine) as caught:
            rows_of_line(line)
        self.assertEqual((caught.exception.word, caught.exception.at), (word, at), line)
        self.assertIs(type(caught.exception.at), int)

    def test_out_at_nought(self):
        for slope, height in ((0, -1), (0, 2), (1, -1), (-1, 2), (2, -1), (-2, 2), (4, -4), (4, 2), (-4, -1)):
            self.assert_refused(((ONE, slope, height),), "out", 0)
        self.assert_refused(((HALF, 2, -1), (ONE, 0, 0)), "out", 0)
        self.assert_refused(((HALF, -2, 2), (ONE, 0, 1)), "out", 0)

    def test_out_at_1(self):
        for slope, height in ((2, 0), (-1, 0), (-2, 1), (1, 1), (4, 0), (-4, 1)):
            self.assert_refused(((ONE, slope, height),), "out", 0)
        self.assert_refused(((HALF, 0, 0), (ONE, 4, -2)), "out", 1)
        self.assert_refused(((HALF, 0, 1), (ONE, -4, 3)), "out", 1)
        self.assert_refused(((QUARTER, 4, 0), (HALF, 0, 1), (ONE, -4, 3)), "out", 2)

    def test_out_between_the_first_of_the_two_that_meet_there(self):
        self.assert_refused(((HALF, 3, 0), (ONE, -3, 3)), "out", 0)
        self.assert_refused(((HALF, -3, 1), (ONE, 3, -2)), "out", 0)
        self.assert_refused(((THIRD, 0, 0), (HALF, -3, 1), (ONE, 3, -2)), "out", 1)
        self.assert_refused(((THIRD, 0, 1), (HALF, 3, 0), (ONE, -3, 3)), "out", 1)
        self.assert_refused(((QUARTER, 0, 1), (HALF, 4, 0), (LATE, -4, 4), (ONE, 0, 1)), "out", 1)
        self.assert_refused(((QUARTER, 0, 0), (HALF, -4, 1), (LATE, 4, -3), (ONE, 0, 0)), "out", 1)

    def test_out_by_little(self):
        for m in (2, 10, 10 ** 8):
            place = (m + 1, 2 * m)
            self.assert_refused(((place, 2, 0), (ONE, 2 - 2 * m, m + 1)), "out", 0)
            self.assert_refused(((place, -2, 1), (ONE, 2 * m - 2, -m)), "out", 0)

    def test_out_twice_the_first_is_told(self):
        self.assert_refused(((HALF, 4, 0), (ONE, -8, 6)), "out", 0)
        self.assert_refused(((QUARTER, 0, 0), (HALF, -4, 1), (LATE, 4, -3), (ONE, 8, -6)), "out", 1)

    def test_many(self):
        self.assert_refused(EIGHTHS, "many", 8)
        self.assert_refused(mirrored(EIGHTHS), "many", 8)
        self.assert_refused(EIGHTHS[:6] + ((ONE, 0, 0),), "many", 7)

    def test_steep(self):
        for steep in (5, 6, 12, 10 ** 9 - 1):
            early = pair(Fraction(1, steep))
            late = pair(Fraction(steep - 1, steep))
            self.assert_refused(((early, steep, 0), (ONE, 0, 1)), "steep", 0)
            self.assert_refused(((early, -steep, 1), (ONE, 0, 0)), "steep", 0)
            self.assert_refused(((early, 0, 0), (pair(Fraction(2, steep)), steep, -1), (ONE, 0, 1)), "steep", 1)
            self.assert_refused(((early, 0, 1), (pair(Fraction(2, steep)), -steep, 2), (ONE, 0, 0)), "steep", 1)
            self.assert_refused(((late, 0, 0), (ONE, steep, 1 - steep)), "steep", 1)
            self.assert_refused(((late, 0, 1), (ONE, -steep, steep)), "steep", 1)

    def test_steep_twice_the_first_is_told(self):
        self.assert_refused((((1, 5), 5, 0), ((4, 5), 0, 1), (ONE, -5, 5)), "steep", 0)
        self.assert_refused((((1, 5), 0, 1), ((2, 5), -5, 2), ((4, 5), 0, 0), (ONE, 5, -4)), "steep", 1)

    def test_out_ahead_of_many(self):
        line = ((QUARTER, -4, 2), (THIRD, 0, 1), (HALF, -3, 2), ((2, 3), 3, -1), (LATE, 0, 1), ((7, 8), -4, 4),
                (ONE, 4, -3))
        self.assert_refused(line, "out", 0)
        self.assert_refused(mirrored(line), "out", 6)

    def test_out_ahead_of_steep(self):
        for line in ((((1, 5), 5, 0), ((4, 5), 0, 1), (ONE, 5, -3)), (((1, 5), -5, 1), ((4, 5), 0, 0), (ONE, -5, 4))):
            self.assert_refused(line, "out", 2)
            self.assert_refused(mirrored(line), "out", 0)
        self.assert_refused(((ONE, 5, 0),), "out", 0)
        self.assert_refused(((ONE, -5, 5),), "out", 0)

    def test_many_ahead_of_steep(self):
        for count in (7, 8, 9, 30, 60):
            self.assert_refused(zigzag(count), "many", count)
        self.assert_refused(zigzag(6), "steep", 0)

    def test_all_three(self):
        line = zigzag(8)[:7] + ((ONE, 16, -13),)
        self.assert_refused(line, "out", 7)
        self.assert_refused(mirrored(line), "out", 0)

    def test_refused_right_under_say_error(self):
        self.assertEqual(NoLine.__bases__, (SayError,))


if __name__ == "__main__":
    unittest.main()
