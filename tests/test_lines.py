"""Points [14], [15], [16], the last sentence of [17], and the interface's part leansay/lines.py."""

import random
import unittest
from fractions import Fraction

from leansay.errors import NoLine, NoPoint, SayError
from leansay.lines import bends, height_at, line_made, stays
from plans import SIXTY, height_on, line_fault, pair, places_on, some_line

ONE = (1, 1)
HALF = (1, 2)
TENT = ((HALF, 2, 0), (ONE, -2, 2))


class LineMade(unittest.TestCase):
    def assert_made(self, stretches, wanted):
        kept = list(stretches)
        told = line_made(stretches)
        self.assertEqual(told, wanted)
        self.assertIsNone(line_fault(told))
        self.assertEqual(stretches, kept)

    def test_one_stretch(self):
        for slope, height in ((0, 0), (0, 1), (1, 0), (-1, 1), (-7, 12), (10 ** 9 - 1, 1 - 10 ** 9)):
            self.assert_made([(ONE, slope, height)], ((ONE, slope, height),))

    def test_many_stretches(self):
        self.assert_made(list(TENT), TENT)
        chance = random.Random(50)
        for count in (2, 3, 6, 12, 30, 60):
            line = some_line(chance, count, range(2, 40))
            self.assertEqual(len(line), count)
            self.assert_made(list(line), line)

    def test_neighbours_of_the_same_slope_and_height(self):
        self.assert_made([(HALF, 1, 0), (ONE, 1, 0)], ((ONE, 1, 0),))
        self.assert_made([((1, 3), 2, 0), (HALF, 2, 0), (ONE, -2, 2)], TENT)
        self.assert_made([(HALF, 2, 0), ((2, 3), -2, 2), ((3, 4), -2, 2), (ONE, -2, 2)], TENT)
        self.assert_made([((1, 5), 2, 0), ((1, 4), 2, 0), (HALF, 2, 0), ((2, 3), -2, 2), (ONE, -2, 2)], TENT)

    def test_the_same_rule_that_is_no_neighbours(self):
        line = (((1, 3), 0, 1), (HALF, 3, 0), ((2, 3), -3, 3), (ONE, 0, 1))
        self.assert_made(list(line), line)

    def test_stretches_parted_anywhere(self):
        chance = random.Random(51)
        for k in range(60):
            line = some_line(chance, chance.randrange(1, 12))
            places = [Fraction(chance.randrange(1, 90), 90) for part in range(20)]
            places += [Fraction(*end) for end, slope, height in line]
            stretches = []
            for place in sorted({place for place in places if place < 1}) + [Fraction(1)]:
                rule = [stretch[1:] for stretch in line if place <= Fraction(*stretch[0])][0]
                stretches.append((pair(place),) + rule)
            self.assert_made(stretches, line)

    def test_sixty_that_become_one(self):
        self.assert_made([(pair(Fraction(k, 60)), -3, 5) for k in range(1, 61)], ((ONE, -3, 5),))

    def test_ends_of_sixty_figures(self):
        large = 10 ** 59 + 7
        self.assert_made([((1, large), 4, 2), ((large - 1, large), 4, 2), (ONE, 4, 2)], ((ONE, 4, 2),))
        line = (((1, large), large, 0), (ONE, 0, 1))
        self.assert_made(list(line), line)

    def test_what_was_handed_in_may_be_changed_afterwards(self):
        stretches = list(TENT)
        told = line_made(stretches)
        stretches.pop()
        stretches.append(None)
        self.assertEqual(told, TENT)


class NoLines(unittest.TestCase):
    def assert_fault(self, stretches, word, at):
        kept = list(stretches)
        with self.assertRaises(NoLine, msg=stretches) as caught:
            line_made(stretches)
        self.assertEqual((caught.exception.word, caught.exception.at), (word, at), stretches)
        self.assertEqual(stretches, kept)

    def test_count(self):
        self.assert_fault([], "count", 0)
        for count in (61, 62, 100):
            self.assert_fault([(pair(Fraction(k, count)), 1, 0) for k in range(1, count + 1)], "count", count)
        self.assert_fault([((-1, 2), 1, 0)] * 61, "count", 61)

    def test_ends_that_do_not_rise(self):
        self.assert_fault([((2, 3), 1, 0), (HALF, 1, 0), (ONE, 1, 0)], "end", 1)
        self.assert_fault([(HALF, 1, 0), (HALF, 1, 0), (ONE, 1, 0)], "end", 1)
        self.assert_fault([(HALF, 1, 0), (ONE, 1, 0), (ONE, 1, 0)], "end", 2)
        self.assert_fault([((1, 3), 1, 0), (HALF, 1, 0), ((1, 4), 1, 0), ((1, 5), 1, 0), (ONE, 1, 0)], "end", 2)
        self.assert_fault([((SIXTY, SIXTY + 1), 1, 0), ((SIXTY - 1, SIXTY), 1, 0), (ONE, 1, 0)], "end", 1)

    def test_ends_of_nought_and_below(self):
        self.assert_fault([((0, 1), 1, 0), (ONE, 1, 0)], "end", 0)
        self.assert_fault([((-1, 2), 1, 0), (ONE, 1, 0)], "end", 0)
        self.assert_fault([((0, 1), 1, 0)], "end", 0)
        self.assert_fault([(HALF, 1, 0), ((0, 1), 1, 0), (ONE, 1, 0)], "end", 1)

    def test_ends_above_1(self):
        self.assert_fault([((2, 1), 1, 0)], "end", 0)
        self.assert_fault([((SIXTY + 1, SIXTY), 1, 0)], "end", 0)
        self.assert_fault([(HALF, 1, 0), ((3, 2), 1, 0)], "end", 1)
        self.assert_fault([(HALF, 1, 0), ((3, 2), 1, 0), (ONE, 1, 0)], "end", 1)
        self.assert_fault([(HALF, 1, 0), (ONE, 1, 0), ((3, 2), 1, 0)], "end", 2)

    def test_short(self):
        self.assert_fault([(HALF, 1, 0)], "short", 0)
        self.assert_fault([((1, 3), 1, 0), (HALF, 1, 0), ((SIXTY - 1, SIXTY), 1, 0)], "short", 2)

    def test_jump(self):
        self.assert_fault([(HALF, 2, 0), (ONE, 2, 1)], "jump", 1)
        self.assert_fault([(HALF, 2, 0), (ONE, -2, 1)], "jump", 1)
        self.assert_fault([(HALF, 2, 0), ((2, 3), -2, 2), (ONE, 0, 1)], "jump", 2)
        self.assert_fault([(HALF, 0, 0), ((2, 3), 0, 1), (ONE, 0, 0)], "jump", 1)
        self.assert_fault([(HALF, 2, 0), ((2, 3), 2, 0), ((3, 4), -2, 2), (ONE, 0, 1)], "jump", 2)
        self.assert_fault([(pair(Fraction(k, 60)), 0, k // 60) for k in range(1, 61)], "jump", 59)

    def test_two_faults_at_once(self):
        self.assert_fault([(HALF, 0, 0), ((2, 3), 0, 1), ((1, 3), 0, 1), (ONE, 0, 1)], "end", 2)
        self.assert_fault([(HALF, 0, 0), ((2, 3), 0, 1), ((4, 3), 0, 1)], "end", 2)
        self.assert_fault([(HALF, 0, 0), ((2, 3), 0, 1)], "short", 1)
        self.assert_fault([(HALF, 0, 0), ((1, 3), 0, 0)], "end", 1)
        self.assert_fault([((0, 1), 0, 0), ((2, 1), 0, 5), ((1, 3), 0, 0)], "end", 0)
        self.assert_fault([(HALF, 0, 0), ((2, 3), 0, 1), (ONE, 0, 7)], "jump", 1)

    def test_one_thing_amiss_in_many(self):
        chance = random.Random(52)
        for k in range(60):
            line = list(some_line(chance, chance.randrange(2, 12)))
            at = chance.randrange(1, len(line))
            end, slope, height = line[at]
            self.assert_fault(line[:at] + [(end, slope, height + chance.choice((-1, 1)))] + line[at + 1:], "jump", at)
            self.assert_fault(line[:at] + [(line[at - 1][0], slope, height)] + line[at + 1:], "end", at)
            self.assert_fault(line[:at], "short", at - 1)

    def test_refused_right_under_say_error(self):
        self.assertEqual(NoLine.__bases__, (SayError,))


class HeightAt(unittest.TestCase):
    def assert_height(self, line, x, wanted):
        told = height_at(line, x)
        self.assertEqual(told, wanted, (line, x))
        self.assertEqual([type(told)] + [type(part) for part in told], [tuple, int, int])

    def test_by_hand(self):
        self.assert_height(TENT, (0, 1), (0, 1))
        self.assert_height(TENT, (1, 4), (1, 2))
        self.assert_height(TENT, HALF, (1, 1))
        self.assert_height(TENT, (3, 4), (1, 2))
        self.assert_height(TENT, (2, 3), (2, 3))
        self.assert_height(TENT, ONE, (0, 1))
        self.assert_height(((ONE, -3, 2),), (5, 6), (-1, 2))
        self.assert_height(((ONE, 0, -7),), (5, 6), (-7, 1))
        self.assert_height(TENT, (1, SIXTY), (2, SIXTY))
        self.assert_height(TENT, (SIXTY - 1, SIXTY), (2, SIXTY))

    def test_each_side_of_an_end(self):
        line = (((1, 3), 3, 0), ((2, 3), -3, 2), (ONE, 0, 0))
        tiny = Fraction(1, 10 ** 58)
        for x, wanted in ((Fraction(1, 3) - tiny, 1 - 3 * tiny), (Fraction(1, 3) + tiny, 1 - 3 * tiny),
                          (Fraction(2, 3) - tiny, 3 * tiny), (Fraction(2, 3) + tiny, Fraction(0))):
            self.assert_height(line, pair(x), pair(wanted))

    def test_many(self):
        chance = random.Random(53)
        for k in range(40):
            line = some_line(chance, chance.choice((1, 2, 5, 20)), range(2, 30))
            for x in places_on(line):
                self.assert_height(line, pair(x), pair(height_on(line, x)))
            for k in range(10):
                bottom = chance.choice((7, 10 ** 9 + 7, SIXTY))
                x = Fraction(chance.randrange(bottom + 1), bottom)
                self.assert_height(line, pair(x), pair(height_on(line, x)))

    def test_beyond(self):
        for x in ((-1, SIXTY), (SIXTY + 1, SIXTY), (-1, 1), (2, 1), (-1, 2), (3, 2), (-SIXTY, 1), (SIXTY, 1)):
            for line in (TENT, ((ONE, 0, 0),)):
                with self.assertRaises(NoPoint):
                    height_at(line, x)
        self.assert_height(TENT, HALF, (1, 1))


class Bends(unittest.TestCase):
    def test_by_hand(self):
        self.assertEqual(bends(((ONE, 0, 0),)), [((0, 1), (0, 1)), (ONE, (0, 1))])
        self.assertEqual(bends(((ONE, -3, 2),)), [((0, 1), (2, 1)), (ONE, (-1, 1))])
        self.assertEqual(bends(TENT), [((0, 1), (0, 1)), (HALF, (1, 1)), (ONE, (0, 1))])
        line = (((1, 3), 1, 0), (ONE, -2, 1))
        self.assertEqual(bends(line), [((0, 1), (0, 1)), ((1, 3), (1, 3)), (ONE, (-1, 1))])

    def test_many(self):
        chance = random.Random(54)
        for k in range(40):
            line = some_line(chance, chance.choice((1, 2, 5, 60)), range(2, 40))
            places = [Fraction(0)] + [Fraction(*stretch[0]) for stretch in line]
            self.assertEqual(bends(line), [(pair(x), pair(height_on(line, x))) for x in places])

    def test_a_new_list_each_time(self):
        first = bends(TENT)
        self.assertIs(type(first), list)
        self.assertEqual({type(bend) for bend in first}, {tuple})
        first.clear()
        self.assertEqual(bends(TENT), [((0, 1), (0, 1)), (HALF, (1, 1)), (ONE, (0, 1))])


class Stays(unittest.TestCase):
    def test_those_that_stay(self):
        for line in (((ONE, 0, 0),), ((ONE, 0, 1),), ((ONE, 1, 0),), ((ONE, -1, 1),), TENT,
                     ((HALF, -2, 1), (ONE, 2, -1)),
                     (((1, 4), 4, 0), ((1, 2), -4, 2), ((3, 4), 4, -2), (ONE, -4, 4))):
            with self.subTest(line):
                self.assertIs(stays(line), True)

    def test_those_that_do_not(self):
        for line in (((ONE, 0, 2),), ((ONE, 0, -1),), ((ONE, 2, 0),), ((ONE, -2, 1),), ((ONE, -1, 0),), ((ONE, 1, 1),),
                     ((ONE, 2, -1),), ((ONE, -2, 2),),
                     (((2, 3), 2, 0), (ONE, -4, 4)), (((1, 3), -4, 1), (ONE, 2, -1))):
            with self.subTest(line):
                self.assertIsNone(line_fault(line))
                self.assertIs(stays(line), False)

    def test_just_beyond_inside(self):
        k = 10 ** 8
        line = (((k + 1, 2 * k + 1), 2, 0), ((k + 1, 2 * k - 1), 1 - 2 * k, k + 1), (ONE, 0, 0))
        turned = tuple((end, -slope, 1 - height) for end, slope, height in line)
        for beyond in (line, turned):
            self.assertIsNone(line_fault(beyond))
            self.assertIs(stays(beyond), False)

    def test_many(self):
        chance = random.Random(55)
        found = set()
        for k in range(300):
            line = some_line(chance, chance.choice((1, 1, 2, 3)), (2, 3, 4), 1)
            wanted = all(0 <= height_on(line, x) <= 1 for x in places_on(line))
            found.add(wanted)
            with self.subTest(line):
                self.assertIs(stays(line), wanted)
        self.assertEqual(found, {True, False})


if __name__ == "__main__":
    unittest.main()
