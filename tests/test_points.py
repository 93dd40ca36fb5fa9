"""Points [9], [10] and [11], and the interface's part leansay/points.py."""

import random
import unittest
from fractions import Fraction

from leansay.errors import NoPoint, SayError
from leansay.points import is_point, least_on_steps, on_steps, worth
from leansay.sayings import Always, Leads, Lesser, Letter, More, Never, Not
from plans import LARGE, P, Q, SIXTY, made, some_plans, some_points, text_of, worth_of

POINTS = [(1, 0, 0), (1, 0, 1), (1, 1, 0), (1, 1, 1), (2, 1, 1), (7, 3, 5), (40, 40, 0), (LARGE, 1, LARGE - 1),
          (SIXTY, 0, SIXTY), (SIXTY, SIXTY, 0), (SIXTY, SIXTY // 2, SIXTY - 1)]


class Strange:
    def __eq__(self, other):
        raise RuntimeError("not to be held against anything")


NO_POINTS = [
    (7, -1, 0), (7, 0, -1), (7, 8, 0), (7, 0, 8), (0, 0, 0), (-1, 0, 0), (-7, -3, -5), (SIXTY, SIXTY + 1, 0),
    (SIXTY, 0, SIXTY + 1), (SIXTY, -SIXTY, 0), (0, 0, 1), (0, 1, 0), (1, 2, 1), (1, 1, 2),
    (True, 0, 0), (True, 1, 1), (False, 0, 0), (1, True, 0), (1, False, 0), (1, 0, True), (1, 0, False),
    ("7", 3, 5), (7, "3", 5), (7, 3, "5"), (7.0, 3, 5), (7, 3.0, 5), (7, 3, 5.0),
    ((7, 1), 3, 5), (7, (3, 1), 5), (7, 3, (5, 1)), (Fraction(7), 3, 5), (7, Fraction(3), 5), (7, 3, Fraction(5)),
    (None, 3, 5), (7, None, 5), (7, 3, None), ([7], 3, 5), (7, [3], 5), (7, 3, [5]), (Strange(), Strange(), Strange()),
    [7, 3, 5], [1, 0, 0], (), (7,), (7, 3), (7, 3, 5, 0), (7, 3, 5, 5), ((7, 3, 5),), [], {}, {7: 3}, {7, 3, 5},
    None, "", "735", "(7, 3, 5)", b"735", 0, 1, 7, SIXTY, True, False, 7.0, Fraction(1, 2), P, Strange(), int, is_point,
]


class IsPoint(unittest.TestCase):
    def test_points(self):
        for point in POINTS:
            with self.subTest(point):
                self.assertIs(is_point(point), True)

    def test_all_small_ones(self):
        for n in range(-2, 5):
            for x in range(-2, 7):
                for y in range(-2, 7):
                    self.assertIs(is_point((n, x, y)), n >= 1 and x in range(n + 1) and y in range(n + 1))

    def test_any_other_thing(self):
        for k, thing in enumerate(NO_POINTS):
            with self.subTest(k):
                self.assertIs(is_point(thing), False)

    def test_things_stay(self):
        thing = [7, 3, 5]
        is_point(thing)
        self.assertEqual(thing, [7, 3, 5])


class Worth(unittest.TestCase):
    def assert_worth(self, saying, point, wanted):
        told = worth(saying, point)
        self.assertEqual(told, wanted, (saying.told(), point))
        self.assertIs(type(told), int)

    def test_each_kind(self):
        for n, x, y in POINTS:
            self.assert_worth(Never(), (n, x, y), 0)
            self.assert_worth(Always(), (n, x, y), n)
            self.assert_worth(P, (n, x, y), x)
            self.assert_worth(Q, (n, x, y), y)
            self.assert_worth(Not(P), (n, x, y), n - x)
            self.assert_worth(Leads(P, Q), (n, x, y), n if x <= y else n - x + y)

    def test_many(self):
        chance = random.Random(30)
        for plan in some_plans(200, range(1, 40)):
            saying = made(plan)
            for n, x, y in some_points(chance, 6):
                wanted = worth_of(plan, n, x, y)
                self.assert_worth(saying, (n, x, y), wanted)
                for k in (2, 3, LARGE):
                    self.assert_worth(saying, (k * n, k * x, k * y), k * wanted)

    def test_no_points_are_refused(self):
        saying = More(P, Not(Q))
        for k, thing in enumerate(NO_POINTS):
            with self.subTest(k):
                with self.assertRaises(NoPoint):
                    worth(saying, thing)
                with self.assertRaises(NoPoint):
                    worth(Never(), thing)
                self.assertEqual(worth(saying, (7, 3, 5)), 5)

    def test_refused_right_under_say_error(self):
        with self.assertRaises(SayError):
            worth(P, (0, 0, 0))


class OnSteps(unittest.TestCase):
    def test_by_hand(self):
        self.assertEqual(on_steps(Leads(P, Q), 1), [[1, 1], [0, 1]])
        self.assertEqual(on_steps(P, 2), [[0, 0, 0], [1, 1, 1], [2, 2, 2]])
        self.assertEqual(on_steps(Q, 2), [[0, 1, 2], [0, 1, 2], [0, 1, 2]])
        self.assertEqual(on_steps(Lesser(P, Q), 3), [[0, 0, 0, 0], [0, 1, 1, 1], [0, 1, 2, 2], [0, 1, 2, 3]])

    def test_many(self):
        plans = some_plans(40, range(1, 25))
        for k, plan in enumerate(plans):
            n = (1, 2, 40, 5)[k % 4]
            wanted = [[worth_of(plan, n, x, y) for y in range(n + 1)] for x in range(n + 1)]
            with self.subTest((n, text_of(plan))):
                told = on_steps(made(plan), n)
                self.assertEqual(told, wanted)
                self.assertEqual({type(inner) for inner in [told] + told}, {list})
                self.assertEqual({type(number) for inner in told for number in inner}, {int})

    def test_the_askers_own(self):
        for saying in (Never(), Always(), P, Q, Leads(P, Q)):
            for n in (1, 2, 40):
                first = on_steps(saying, n)
                wanted = [list(inner) for inner in first]
                self.assertEqual(len({id(inner) for inner in first}), n + 1)
                first[0][0] = -5
                first[-1].append(7)
                first.reverse()
                first.pop()
                self.assertEqual(on_steps(saying, n), wanted)


class LeastOnSteps(unittest.TestCase):
    def test_by_hand(self):
        self.assertEqual(least_on_steps(Never(), 3), (0, (3, 0, 0)))
        self.assertEqual(least_on_steps(Always(), 3), (3, (3, 0, 0)))
        self.assertEqual(least_on_steps(Not(P), 3), (0, (3, 3, 0)))
        self.assertEqual(least_on_steps(Not(Q), 3), (0, (3, 0, 3)))
        self.assertEqual(least_on_steps(Leads(P, Q), 40), (0, (40, 40, 0)))
        self.assertEqual(least_on_steps(More(P, Not(P)), 2), (2, (2, 0, 0)))
        self.assertEqual(least_on_steps(made(("greater", ("p",), ("not", ("p",)))), 2), (1, (2, 1, 0)))
        self.assertEqual(least_on_steps(made(("greater", ("q",), ("not", ("q",)))), 5), (3, (5, 0, 2)))
        self.assertEqual(least_on_steps(made(("greater", ("q",), ("not", ("q",)))), 1), (1, (1, 0, 0)))

    def test_many(self):
        plans = some_plans(60, range(1, 25))
        for k, plan in enumerate(plans):
            n = (1, 2, 3, 7, 16, 40)[k % 6]
            points = [(n, x, y) for x in range(n + 1) for y in range(n + 1)]
            wanted = min((worth_of(plan, *point), point) for point in points)
            with self.subTest((n, text_of(plan))):
                told = least_on_steps(made(plan), n)
                self.assertEqual(told, wanted)
                self.assertIs(type(told), tuple)
                self.assertIs(is_point(told[1]), True)
                self.assertEqual(least_on_steps(made(plan), n), wanted)


if __name__ == "__main__":
    unittest.main()
