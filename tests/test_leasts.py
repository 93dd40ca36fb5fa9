"""Points [3], [29], [30] and [31], and the interface's part leansay/leasts.py."""

import random
import unittest
from fractions import Fraction

from leansay.errors import TooMany
from leansay.leasts import always, fewest_steps, least_worth
from leansay.points import is_point, worth
from leansay.reading import read
from leansay.sayings import Leads, Not, put_in
from leansay.trees import holds
from plans import (P, Q, all_steps, does_hold, is_pair, made, pair, some_folded_plan, some_folded_plans, text_of,
                   tree_size, worth_of)

# (the text, its least worth, the fewest steps among which it is less than 1)
BY_HAND = (
    ("never", (0, 1), 1), ("always", (1, 1), None), ("p", (0, 1), 1), ("q", (0, 1), 1), ("not p", (0, 1), 1),
    ("not never", (1, 1), None), ("( p leads p )", (1, 1), None), ("( p more not p )", (1, 1), None),
    ("( p leads q )", (0, 1), 1), ("( p less not p )", (0, 1), 1),
    ("( p leads ( q leads p ) )", (1, 1), None),
    ("( ( ( p leads q ) leads q ) leads ( ( q leads p ) leads p ) )", (1, 1), None),
    ("( ( not p leads not q ) leads ( q leads p ) )", (1, 1), None),
    ("( ( p leads q ) greater ( q leads p ) )", (1, 1), None),
    ("( ( p less q ) leads ( p lesser q ) )", (1, 1), None),
    ("( p greater not p )", (1, 2), 2), ("( q greater not q )", (1, 2), 2),
    ("( p greater ( not p less not p ) )", (1, 3), 2),
    ("( ( p more p ) greater not p )", (2, 3), 3),
    ("( ( p greater q ) greater ( not p less not q ) )", (1, 3), 2),
    ("( ( p more p ) greater ( ( not p less not p ) less not p ) )", (2, 5), 3),
    ("( p greater ( ( not p less not p ) less not p ) )", (1, 4), 2),
    ("( ( ( p more p ) more p ) greater not p )", (3, 4), 4),
    ("( ( ( p more p ) more p ) greater ( not p less not p ) )", (3, 5), 4),
    ("( ( ( ( p more p ) more p ) more p ) greater not p )", (4, 5), 5),
    ("( ( ( p more p ) more ( p more p ) ) greater ( not p less not p ) )", (2, 3), 5),
    ("( ( p greater not p ) greater ( q greater not q ) )", (1, 2), 2),
    ("( ( p more q ) greater ( not p more not q ) )", (1, 1), None),
    ("( ( p more q ) greater ( not p less not q ) )", (1, 2), 2),
    ("( ( p more ( p more q ) ) greater ( not p lesser not q ) )", (1, 2), 2),
    ("( not ( ( p more p ) less ( p more p ) ) greater ( ( p more p ) more p ) )", (6, 7), 7),
    ("( not ( ( not q more not q ) less ( not q more not q ) ) greater ( ( not q more not q ) more not q ) )",
     (6, 7), 7),
    ("( not ( ( ( p less p ) more p ) less ( p more p ) ) greater ( p more p ) )", (4, 5), 5),
)


# The first n at one of whose steps the plan is worth less than n; None where none is found up to most.
def fewest_by_search(plan, most):
    for n in range(1, most + 1):
        if any(worth_of(plan, *point) < n for point in all_steps(n)):
            return n
    return None


def eight_folds(chance):
    return [some_folded_plan(chance, 8) for k in range(40)]


class Leasts(unittest.TestCase):
    # Not less anywhere, since the tree holds, and so little at the point: so it is the least.
    def assert_least(self, plan):
        saying = made(plan)
        told = least_worth(saying)
        self.assertEqual((type(told), len(told)), (tuple, 3))
        least, point, tree = told
        self.assertTrue(is_pair(least), least)
        self.assertTrue(is_point(point))
        self.assertEqual(Fraction(worth_of(plan, *point), point[0]), Fraction(*least), text_of(plan))
        self.assertIs(holds(saying, tree, least), True)
        self.assertTrue(does_hold(plan, tree, least))
        self.assertIs(holds(saying, tree, pair(Fraction(*least) + Fraction(1, 10 ** 12))), False)
        cuts, depth, greatest = tree_size(tree)
        self.assertTrue(cuts <= 400 and depth <= 40 and greatest < 10 ** 9)
        return told

    def assert_always(self, plan, least):
        saying = made(plan)
        told = always(saying)
        self.assertEqual((type(told), len(told)), (tuple, 2))
        if least == (1, 1):
            self.assertEqual(told[0], "always")
            self.assertIs(holds(saying, told[1], (1, 1)), True)
            self.assertTrue(does_hold(plan, told[1], (1, 1)))
        else:
            self.assertEqual(told[0], "less")
            self.assertTrue(is_point(told[1]))
            self.assertLess(worth_of(plan, *told[1]), told[1][0])

    def assert_steps(self, plan, least):
        told = fewest_steps(made(plan))
        if least == (1, 1):
            self.assertIsNone(told)
            self.assertIsNone(fewest_by_search(plan, 9))
        else:
            n, point = told
            self.assertEqual((type(told), type(n), point[0]), (tuple, int, n))
            self.assertTrue(is_point(point))
            self.assertLess(worth_of(plan, *point), n)
            self.assertIsNone(fewest_by_search(plan, n - 1), (text_of(plan), told))
        return told

    def assert_all(self, plan):
        least = self.assert_least(plan)[0]
        self.assert_always(plan, least)
        self.assert_steps(plan, least)
        return least


class ByHand(Leasts):
    def test_least_worth(self):
        for text, least, steps in BY_HAND:
            with self.subTest(text):
                told = least_worth(read(text))
                self.assertEqual(told[0], least)
                self.assertEqual(Fraction(worth(read(text), told[1]), told[1][0]), Fraction(*least))
                self.assertIs(holds(read(text), told[2], least), True)

    def test_always(self):
        for text, least, steps in BY_HAND:
            with self.subTest(text):
                told = always(read(text))
                self.assertEqual(told[0], "always" if least == (1, 1) else "less")
                if least == (1, 1):
                    self.assertIs(holds(read(text), told[1], (1, 1)), True)
                else:
                    self.assertLess(worth(read(text), told[1]), told[1][0])

    def test_fewest_steps(self):
        for text, least, steps in BY_HAND:
            with self.subTest(text):
                told = fewest_steps(read(text))
                self.assertEqual(None if told is None else told[0], steps)
                if told is not None:
                    self.assertLess(worth(read(text), told[1]), steps)
                    self.assertEqual(told[1][0], steps)


class ByChance(Leasts):
    def test_none_to_seven_folds(self):
        found = set()
        for plan in some_folded_plans(110, 300, range(8)):
            found.add(self.assert_all(plan))
        self.assertGreater(len(found), 4)

    def test_eight_folds(self):
        for plan in eight_folds(random.Random(111)):
            self.assert_all(plan)

    # What is less than 1 in small places only is seen among many steps only.
    def test_greater_folds(self):
        chance = random.Random(112)
        found = set()
        for k in range(150):
            one = some_folded_plan(chance, chance.choice((2, 3, 4)))
            other = some_folded_plan(chance, chance.choice((2, 3)))
            plan = ("greater", one, other)
            found.add(self.assert_all(plan))
        self.assertGreater(len(found), 6)

    def test_no_step_of_few_is_worth_less_than_the_least(self):
        for plan in some_folded_plans(113, 60, range(1, 9)):
            least = Fraction(*least_worth(made(plan))[0])
            for n in range(1, 9):
                self.assertTrue(all(worth_of(plan, *point) >= least * n for point in all_steps(n)), text_of(plan))

    def test_asked_twice(self):
        for plan in some_folded_plans(114, 20, (3, 5)):
            for asked in (least_worth, always, fewest_steps):
                self.assertEqual(asked(made(plan)), asked(made(plan)))


class Steps(unittest.TestCase):
    def test_the_fewest_may_be_fewer_than_where_it_is_least(self):
        saying = read("( p greater ( not p less not p ) )")
        self.assertEqual(least_worth(saying)[0], (1, 3))
        self.assertEqual(fewest_steps(saying)[0], 2)

    def test_both_letters(self):
        for text in ("( ( p more ( p more p ) ) greater ( ( q more q ) greater ( not p less not q ) ) )",
                     "( ( p more ( p more q ) ) greater ( ( not q more not p ) lesser not p ) )",
                     "( ( ( p more p ) greater ( q more q ) ) greater ( not p lesser not q ) )"):
            saying = read(text)
            told = fewest_steps(saying)
            self.assertLess(worth(saying, told[1]), told[0])
            for n in range(1, told[0]):
                self.assertTrue(all(worth(saying, point) == n for point in all_steps(n)), text)


class Refused(unittest.TestCase):
    def test_nine_folds(self):
        chance = random.Random(115)
        for folds in (9, 9, 9, 10, 15):
            saying = made(some_folded_plan(chance, folds))
            for asked in (least_worth, always, fewest_steps):
                with self.assertRaises(TooMany):
                    asked(saying)

    def test_nine_folds_that_are_always_1(self):
        saying = Leads(P, P)
        for k in range(8):
            saying = Leads(Q, saying)
        self.assertEqual(saying.folds(), 9)
        for asked in (least_worth, always, fewest_steps):
            with self.assertRaises(TooMany):
                asked(saying)
        self.assertEqual(least_worth(saying.other)[0], (1, 1))
        self.assertEqual(always(saying.other)[0], "always")
        self.assertIsNone(fewest_steps(saying.other))

    def test_many_parts_but_few_folds(self):
        saying = read("( p greater not p )")
        for k in range(300):
            saying = put_in(Not(Not(P)), saying, P)
        self.assertGreater(saying.parts(), 600)
        self.assertEqual(least_worth(saying)[0], (1, 2))
        self.assertEqual(always(saying)[0], "less")
        self.assertEqual(fewest_steps(saying), (2, (2, 1, fewest_steps(saying)[1][2])))


if __name__ == "__main__":
    unittest.main()
