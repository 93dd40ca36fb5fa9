"""Point [25], and the interface's part leansay/rules.py."""

import random
import unittest

from leansay.errors import NoRows, SayError
from leansay.hulls import cut, square, told_by
from leansay.rows import rows_of
from leansay.rules import rules_on
from plans import FOLDS, LEAVES, amid, made, some_hulls, some_plans, some_rows, worths_row_by_row

NEVER = (0, 0, 0)
ALWAYS = (0, 0, 1)
X = (1, 0, 0)
Y = (0, 1, 0)
SUM = (1, 1, -1)
DIFFERENCE = (1, -1, 0)

# Rows 0 to 5, of which the folds below are made.
AHEAD = [("never",), ("always",), ("p",), ("q",), ("not", 2), ("not", 3)]
AHEAD_RULES = [NEVER, ALWAYS, X, Y, (-1, 0, 1), (0, -1, 1)]

# (the fold, its rule on the square)
ON_SQUARE = (
    # the test is nowhere more than 0
    (("more", 2, 0), X), (("more", 0, 3), Y), (("more", 0, 0), NEVER),
    (("less", 2, 0), NEVER), (("less", 0, 5), NEVER), (("less", 0, 0), NEVER),
    (("greater", 0, 2), X), (("greater", 3, 1), ALWAYS), (("greater", 0, 1), ALWAYS),
    (("lesser", 0, 2), NEVER), (("lesser", 3, 1), Y), (("lesser", 0, 1), NEVER),
    (("leads", 1, 2), X), (("leads", 3, 0), (0, -1, 1)), (("leads", 1, 0), NEVER),
    # the test is nowhere less than 0
    (("more", 2, 1), ALWAYS), (("more", 1, 3), ALWAYS), (("more", 1, 1), ALWAYS),
    (("less", 2, 1), X), (("less", 1, 5), (0, -1, 1)), (("less", 1, 1), ALWAYS),
    (("greater", 2, 0), X), (("greater", 1, 3), ALWAYS), (("greater", 1, 0), ALWAYS),
    (("lesser", 2, 0), NEVER), (("lesser", 1, 3), Y), (("lesser", 1, 0), NEVER),
    (("leads", 0, 2), ALWAYS), (("leads", 3, 1), ALWAYS), (("leads", 0, 1), ALWAYS),
    # the test is neither
    (("more", 2, 4), ALWAYS), (("more", 5, 3), ALWAYS),
    (("less", 2, 4), NEVER), (("less", 5, 3), NEVER),
    (("greater", 2, 2), X), (("lesser", 5, 5), (0, -1, 1)), (("leads", 3, 3), ALWAYS), (("leads", 0, 0), ALWAYS),
)

# (the fold, its test, its rule on the low part of what the test cuts, its rule on the high part)
MIXED = (
    (("more", 2, 3), SUM, (1, 1, 0), ALWAYS), (("more", 2, 2), (2, 0, -1), (2, 0, 0), ALWAYS),
    (("more", 4, 3), (-1, 1, 0), (-1, 1, 1), ALWAYS), (("more", 4, 5), (-1, -1, 1), (-1, -1, 2), ALWAYS),
    (("less", 2, 3), SUM, NEVER, SUM), (("less", 3, 3), (0, 2, -1), NEVER, (0, 2, -1)),
    (("less", 2, 5), (1, -1, 0), NEVER, (1, -1, 0)),
    (("greater", 2, 3), DIFFERENCE, Y, X), (("greater", 3, 2), (-1, 1, 0), X, Y),
    (("greater", 2, 4), (2, 0, -1), (-1, 0, 1), X),
    (("lesser", 2, 3), DIFFERENCE, X, Y), (("lesser", 3, 2), (-1, 1, 0), Y, X),
    (("lesser", 5, 2), (-1, -1, 1), (0, -1, 1), X),
    (("leads", 2, 3), (-1, 1, 0), (-1, 1, 1), ALWAYS), (("leads", 3, 2), DIFFERENCE, (1, -1, 1), ALWAYS),
    (("leads", 4, 3), SUM, (1, 1, 0), ALWAYS), (("leads", 2, 5), (-1, -1, 1), (-1, -1, 2), ALWAYS),
)


# What the fold's test tells where its parts are worth so much.
def told_by_test(word, n, one, other):
    if word in ("more", "less"):
        return one + other - n
    return other - one if word == "leads" else one - other


# A rule is known by what it tells in three corners: so all is held against the rows' worths in the corners.
class RulesOn(unittest.TestCase):
    def first_mixed(self, rows, hull):
        worths = [worths_row_by_row(rows, corner) for corner in hull]
        for k, row in enumerate(rows):
            if len(row) == 3:
                told = [told_by_test(row[0], corner[0], found[row[1]], found[row[2]])
                        for corner, found in zip(hull, worths)]
                if min(told) < 0 < max(told):
                    return (k, told)
        return None

    def assert_rules(self, rows, hull, rules):
        self.assertIs(type(rules), list)
        self.assertEqual(len(rules), len(rows))
        between = [amid(pair) for pair in zip(hull, hull[1:] + hull[:1])]
        for point in hull + between + [amid(hull), amid(hull[:3])]:
            self.assertEqual([told_by(rule, point) for rule in rules], worths_row_by_row(rows, point), (rows, hull))
        for rule in rules:
            self.assertIs(type(rule), tuple)
            self.assertEqual([type(number) for number in rule], [int, int, int])

    def assert_told(self, rows, hull):
        kept = (list(rows), list(hull))
        told = rules_on(rows, hull)
        self.assertIs(type(told), tuple)
        self.assertEqual((rows, hull), kept)
        mixed = self.first_mixed(rows, hull)
        if mixed is None:
            self.assertEqual((told[0], len(told)), ("rules", 2))
            self.assert_rules(rows, hull, told[1])
        else:
            self.assertEqual((told[:2], len(told)), (("mixed", mixed[0]), 3))
            self.assertEqual([told_by(told[2], corner) for corner in hull], mixed[1])
            self.assertIs(type(told[2]), tuple)
            self.assertEqual(len(cut(hull, told[2])), 2)
        return told

    def test_what_is_no_fold(self):
        for leaf, rule in (("never", NEVER), ("always", ALWAYS), ("p", X), ("q", Y)):
            self.assertEqual(rules_on([(leaf,)], square()), ("rules", [rule]))
        self.assertEqual(rules_on(AHEAD, square()), ("rules", AHEAD_RULES))
        self.assertEqual(rules_on([("never",), ("not", 0), ("not", 1)], square()), ("rules", [NEVER, ALWAYS, NEVER]))

    def test_folds_with_a_rule_on_the_square(self):
        for fold, rule in ON_SQUARE:
            with self.subTest(fold):
                self.assertEqual(rules_on(AHEAD + [fold], square()), ("rules", AHEAD_RULES + [rule]))
                self.assert_told(AHEAD + [fold], square())

    def test_folds_that_are_mixed_on_the_square(self):
        for fold, rule, low, high in MIXED:
            with self.subTest(fold):
                self.assertEqual(rules_on(AHEAD + [fold], square()), ("mixed", 6, rule))
                parts = cut(square(), rule)
                self.assertEqual(rules_on(AHEAD + [fold], parts[0]), ("rules", AHEAD_RULES + [low]))
                self.assertEqual(rules_on(AHEAD + [fold], parts[1]), ("rules", AHEAD_RULES + [high]))
                for part in parts:
                    self.assert_told(AHEAD + [fold], part)

    def test_each_fold_is_looked_at_in_every_way(self):
        for word in FOLDS:
            self.assertGreaterEqual(len([fold for fold, rule in ON_SQUARE if fold[0] == word]), 7)
            self.assertGreaterEqual(len([mixed for mixed in MIXED if mixed[0][0] == word]), 3)

    def test_folds_of_folds(self):
        low, high = cut(square(), SUM)
        rows = [("p",), ("q",), ("more", 0, 1), ("less", 2, 0), ("not", 3)]
        self.assertEqual(rules_on(rows, square()), ("mixed", 2, SUM))
        self.assertEqual(rules_on(rows, low), ("mixed", 3, (2, 1, -1)))
        self.assertEqual(rules_on(rows, high), ("rules", [X, Y, ALWAYS, X, (-1, 0, 1)]))
        low_low, low_high = cut(low, (2, 1, -1))
        self.assertEqual(rules_on(rows, low_low), ("rules", [X, Y, (1, 1, 0), NEVER, ALWAYS]))
        self.assertEqual(rules_on(rows, low_high), ("rules", [X, Y, (1, 1, 0), (2, 1, -1), (-2, -1, 2)]))

    def test_the_first_mixed_row(self):
        rows = [("p",), ("q",), ("greater", 0, 1), ("more", 0, 1)]
        self.assertEqual(rules_on(rows, square()), ("mixed", 2, DIFFERENCE))
        self.assertEqual(rules_on(rows[:2] + [rows[3], rows[2]], square()), ("mixed", 2, SUM))
        self.assertEqual(rules_on([("always",)] + [("q",)] * 3 + [("p",), ("leads", 2, 4)], square()),
                         ("mixed", 5, DIFFERENCE))

    def test_rows_that_none_uses(self):
        self.assertEqual(rules_on([("p",), ("q",), ("lesser", 0, 1), ("never",)], square()), ("mixed", 2, DIFFERENCE))
        self.assertEqual(rules_on([("q",), ("always",), ("never",), ("p",)], square()),
                         ("rules", [Y, ALWAYS, NEVER, X]))

    def test_alike_rows(self):
        self.assertEqual(rules_on([("p",), ("p",), ("greater", 0, 1)], square()), ("rules", [X, X, X]))

    def test_many_rows(self):
        chance = random.Random(80)
        told = []
        for k in range(120):
            for hull in some_hulls(chance, 10):
                rows = some_rows(chance, chance.choice((1, 3, 8, 20)))
                told.append(self.assert_told(rows, hull)[0])
        self.assertGreater(told.count("rules"), 100)
        self.assertGreater(told.count("mixed"), 100)

    def test_the_rows_of_sayings(self):
        chance = random.Random(81)
        for plan in some_plans(60, range(1, 14)):
            for hull in some_hulls(chance, 8):
                self.assert_told(rows_of(made(plan)), hull)

    # So it is mixed at a later row on each part, and comes to an end.
    def test_cut_until_each_row_has_a_rule(self):
        chance = random.Random(82)
        for k in range(15):
            rows = some_rows(chance, 12)
            waiting = [(square(), -1)]
            while waiting:
                hull, ahead = waiting.pop()
                told = self.assert_told(rows, hull)
                if told[0] == "mixed":
                    self.assertGreater(told[1], ahead)
                    waiting.extend((part, told[1]) for part in cut(hull, told[2]))

    def test_four_hundred_rows(self):
        nots = [("p",)] + [("not", k) for k in range(399)]
        self.assertEqual(rules_on(nots, square()), ("rules", [X, (-1, 0, 1)] * 200))
        self.assertEqual(rules_on(nots[:399] + [("more", 0, 398)], square()), ("mixed", 399, (2, 0, -1)))

    def test_great_numbers(self):
        doubled = [("p",)] + [("more", k, k) for k in range(70)]
        hull = square()
        for k in range(70):
            told = rules_on(doubled, hull)
            self.assertEqual(told, ("mixed", k + 1, (2 ** (k + 1), 0, -1)))
            hull = cut(hull, told[2])[0]
        self.assertEqual(rules_on(doubled, hull), ("rules", [(2 ** k, 0, 0) for k in range(71)]))

    def test_the_told_list_is_the_askers_own(self):
        rows = [("p",), ("not", 0)]
        hull = square()
        first = rules_on(rows, hull)
        first[1].append(None)
        first[1][0] = "changed"
        self.assertEqual(rules_on(rows, hull), ("rules", [X, (-1, 0, 1)]))
        first = rules_on(rows, hull)
        rows[0] = ("q",)
        hull.clear()
        self.assertEqual(first, ("rules", [X, (-1, 0, 1)]))

    def test_no_rows(self):
        half = cut(square(), SUM)[0]
        for hull in (square(), half):
            for things, at in (([], 0), ([None], 0), ([("p",), ("not", 1)], 1), ([("more", 0, 0)], 0),
                               ([("p",), ("not", True)], 1), ([("p",), ["q"]], 1), ([("p",), ("mor", 0, 0)], 1),
                               ([("p",)] * 401, 400), ([("p",)] * 400 + [None], 400), ([("p",), ("q",), ()], 2),
                               ([("p",), ("q",), ("more", 0, 2)], 2), ([("p",), ("not", -1), None], 1)):
                kept = list(things)
                with self.assertRaises(NoRows) as caught:
                    rules_on(things, hull)
                self.assertEqual(caught.exception.at, at)
                self.assertEqual(things, kept)

    def test_no_rows_ahead_of_mixed(self):
        with self.assertRaises(NoRows) as caught:
            rules_on([("p",), ("q",), ("more", 0, 1), ("not", 3)], square())
        self.assertEqual(caught.exception.at, 3)

    def test_refused_right_under_say_error(self):
        self.assertEqual(NoRows.__bases__, (SayError,))

    def test_each_leaf(self):
        chance = random.Random(83)
        for hull in some_hulls(chance, 6):
            self.assert_told([(leaf,) for leaf in LEAVES], hull)


if __name__ == "__main__":
    unittest.main()
