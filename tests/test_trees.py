"""Points [26], [27] and [28], and the interface's part leansay/trees.py."""

import random
import unittest
from fractions import Fraction

from leansay.errors import NoCut, SayError, TooMany
from leansay.hulls import square
from leansay.rows import rows_of
from leansay.rules import rules_on
from leansay.sayings import Always, Greater, Leads, Less, Lesser, More, Never, Not, put_in
from leansay.trees import cutting, holds, holds_for_both, hulls_of
from plans import (P, Q, SQUARE, area, does_hold, does_hold_for_both, folds_in, hull_fault, leaf_hulls, made, pair,
                   parts_of, some_folded_plan, some_folded_plans, some_rule, text_of, tree_size, worth_of)

LEAF = ("leaf",)
SUM = (1, 1, -1)
DIFFERENCE = (1, -1, 0)
ZERO = (0, 1)
ONE = (1, 1)
LOW = [(1, 0, 0), (1, 1, 0), (1, 0, 1)]
HIGH = [(1, 1, 0), (1, 1, 1), (1, 0, 1)]
NO_CUTS = ((0, 0, 0), (0, 0, 1), (1, 0, 0), (1, 1, 0), (1, 0, 1), (-1, -1, 2), (0, 0, -9))
MIDDLE = Greater(P, Not(P))


def cut_by(rule, low=LEAF, high=LEAF):
    return ("cut", rule, low, high)


# A tree on the square with about so many cuts, taken by chance.
def some_tree(chance, cuts, hull=None):
    hull = SQUARE if hull is None else hull
    if cuts == 0:
        return LEAF
    for k in range(40):
        rule = some_rule(chance, 5)
        parts = parts_of(hull, rule)
        if parts is not None:
            low = chance.randrange(cuts)
            return cut_by(rule, some_tree(chance, low, parts[0]), some_tree(chance, cuts - 1 - low, parts[1]))
    return LEAF


# The least worth in the corners of a tree's hulls.
def least_in_corners(plan, tree):
    return min(Fraction(worth_of(plan, *corner), corner[0]) for hull in leaf_hulls(tree, SQUARE) for corner in hull)


# So many cuts within one another, each of the low part of the one ahead, down to x from 0 to 1 / (count + 1).
def narrowing(count, deepest=LEAF):
    tree = deepest
    for k in range(count, 0, -1):
        tree = cut_by((k + 1, 0, -1), tree)
    return tree


# The square parted into so many columns, each of them into as many pieces.
def grid(count):
    column = LEAF
    for k in range(count - 1, 0, -1):
        column = cut_by((0, count, -k), LEAF, column)
    tree = column
    for k in range(count - 1, 0, -1):
        tree = cut_by((count, 0, -k), column, tree)
    return tree


def nine_folds():
    doubled = More(P, P)
    four = More(More(doubled, doubled), P)
    return [More(four, four), Leads(Less(four, Q), Not(More(Not(four), P)))]


class HullsOf(unittest.TestCase):
    def test_a_leaf(self):
        self.assertEqual(hulls_of(LEAF), [SQUARE])

    def test_one_cut(self):
        self.assertEqual(hulls_of(cut_by(SUM)), [LOW, HIGH])
        self.assertEqual(hulls_of(cut_by((-1, -1, 1))), [HIGH, LOW])

    def test_cuts_within_cuts(self):
        low_low, low_high = [(1, 0, 0), (2, 1, 1), (1, 0, 1)], [(1, 0, 0), (1, 1, 0), (2, 1, 1)]
        high_low, high_high = [(1, 1, 1), (1, 0, 1), (2, 1, 1)], [(1, 1, 0), (1, 1, 1), (2, 1, 1)]
        self.assertEqual(hulls_of(cut_by(SUM, cut_by(DIFFERENCE))), [low_low, low_high, HIGH])
        self.assertEqual(hulls_of(cut_by(SUM, LEAF, cut_by(DIFFERENCE))), [LOW, high_low, high_high])
        self.assertEqual(hulls_of(cut_by(SUM, cut_by(DIFFERENCE), cut_by(DIFFERENCE))),
                         [low_low, low_high, high_low, high_high])

    def test_many(self):
        chance = random.Random(90)
        for k in range(60):
            tree = some_tree(chance, chance.choice((1, 3, 10, 40)))
            told = hulls_of(tree)
            self.assertEqual(told, leaf_hulls(tree, SQUARE))
            self.assertEqual(len(told), tree_size(tree)[0] + 1)
            self.assertEqual(sum(area(hull) for hull in told), 1)
            self.assertTrue(all(hull_fault(hull) is None for hull in told))

    def test_forty_within_one_another(self):
        for count in (40, 50):
            told = hulls_of(narrowing(count))
            self.assertEqual(len(told), count + 1)
            self.assertEqual(told[0], [(1, 0, 0), (count + 1, 1, 0), (count + 1, 1, count + 1), (1, 0, 1)])
            self.assertEqual(told, leaf_hulls(narrowing(count), SQUARE))

    def test_four_hundred_cuts(self):
        self.assertEqual(tree_size(grid(20))[:2], (399, 38))
        told = hulls_of(grid(20))
        self.assertEqual(told, leaf_hulls(grid(20), SQUARE))
        self.assertEqual([area(hull) for hull in told], [Fraction(1, 400)] * 400)
        self.assertEqual(told[-1], [(20, 20, 19), (1, 1, 1), (20, 19, 20), (20, 19, 19)])

    def test_rules_of_nine_figures(self):
        nine = 10 ** 9 - 1
        tree = cut_by((nine, -nine, 1), cut_by((nine, nine, -nine - 1)), cut_by((nine - 1, -nine, 0)))
        self.assertEqual(hulls_of(tree), leaf_hulls(tree, SQUARE))

    def assert_no_cut(self, tree):
        self.assertIsNone(leaf_hulls(tree, SQUARE))
        with self.assertRaises(NoCut):
            hulls_of(tree)

    def test_no_cut_at_the_root(self):
        for rule in NO_CUTS:
            self.assert_no_cut(cut_by(rule))
            self.assert_no_cut(cut_by(rule, cut_by(SUM), cut_by(DIFFERENCE)))

    def test_no_cut_deep_within(self):
        for rule in NO_CUTS + (SUM,):
            self.assert_no_cut(cut_by(SUM, cut_by(rule)))
            self.assert_no_cut(cut_by(SUM, LEAF, cut_by(rule)))
            self.assert_no_cut(cut_by(SUM, cut_by(DIFFERENCE), cut_by(DIFFERENCE, LEAF, cut_by(rule))))
        self.assert_no_cut(cut_by(SUM, LEAF, cut_by((2, 2, -1))))
        self.assert_no_cut(cut_by(SUM, cut_by((2, 2, -3))))
        self.assertEqual(len(hulls_of(cut_by(SUM, cut_by((2, 2, -1)), cut_by((2, 2, -3))))), 4)
        self.assert_no_cut(narrowing(39, cut_by((39, 0, -1))))
        self.assert_no_cut(narrowing(39, cut_by((0, 0, 1))))

    def test_new_lists_each_time(self):
        for tree in (LEAF, cut_by(SUM), cut_by(SUM, cut_by(DIFFERENCE))):
            first = hulls_of(tree)
            wanted = leaf_hulls(tree, SQUARE)
            first[0].append(None)
            self.assertEqual(first[1:], wanted[1:])
            first[0][0] = "changed"
            first.append(None)
            self.assertEqual(hulls_of(tree), wanted)
            self.assertEqual(square(), SQUARE)


class Cutting(unittest.TestCase):
    def assert_cutting(self, saying):
        tree = cutting(saying)
        cuts, depth, greatest = tree_size(tree)
        self.assertLessEqual(cuts, 400)
        self.assertLessEqual(depth, 40)
        self.assertLess(greatest, 10 ** 9)
        hulls = leaf_hulls(tree, SQUARE)
        self.assertIsNotNone(hulls, saying.told())
        self.assertEqual(hulls, hulls_of(tree))
        for hull in hulls:
            self.assertEqual(rules_on(rows_of(saying), hull)[0], "rules")
        return tree

    def test_no_folds(self):
        for saying in (Never(), Always(), P, Q, Not(P), Not(Not(Q))):
            self.assert_cutting(saying)

    def test_by_hand(self):
        for saying in (More(P, Q), Less(P, Q), Greater(P, Q), Lesser(P, Q), Leads(P, Q), More(P, P), Less(Q, Q), MIDDLE,
                       Leads(P, Leads(Q, P)), Leads(Leads(Leads(P, Q), Q), Leads(Leads(Q, P), P))):
            self.assertNotEqual(self.assert_cutting(saying), LEAF)

    def test_none_to_eight_folds(self):
        for folds in range(9):
            for plan in some_folded_plans(92 + folds, 40, (folds,)):
                self.assertEqual(made(plan).folds(), folds)
                self.assert_cutting(made(plan))

    def test_as_many_cuts_as_may_be(self):
        one = More(P, P)
        other = Less(Q, Q)
        self.assert_cutting(Greater(Lesser(More(one, P), Less(other, Q)), Leads(P, More(Q, Q))))
        self.assert_cutting(More(More(More(one, one), P), More(Q, More(Q, Q))))
        self.assert_cutting(Less(Less(Less(other, other), Q), Less(P, Less(P, P))))

    def test_sixty_parts_and_beyond(self):
        saying = Leads(P, Q)
        for k in range(57):
            saying = Not(saying)
        self.assertEqual(saying.parts(), 60)
        self.assert_cutting(saying)
        self.assert_cutting(put_in(saying, saying, Not(saying)))

    # Its rows are more than rows handed in may be, but it has one fold.
    def test_more_than_four_hundred_rows(self):
        saying = Leads(P, Q)
        for k in range(500):
            saying = put_in(Not(P), saying, P)
        tree = cutting(saying)
        self.assertEqual(tree_size(tree)[0], 1)
        self.assertIs(holds(saying, tree, ZERO), True)
        self.assertIs(holds(saying, tree, (1, 10)), False)
        self.assertIs(holds_for_both(saying, Leads(P, Q), tree), True)

    def test_nine_folds(self):
        for saying in nine_folds():
            self.assertGreaterEqual(saying.folds(), 9)
            with self.assertRaises(TooMany):
                cutting(saying)
        chance = random.Random(93)
        for folds in (9, 10, 12, 20):
            with self.assertRaises(TooMany):
                cutting(made(some_folded_plan(chance, folds)))

    # Folds are counted as often as they stand there, not as rows.
    def test_folds_that_are_one_object(self):
        saying = P
        for k in range(3):
            saying = More(saying, saying)
        self.assertEqual(saying.folds(), 7)
        self.assert_cutting(saying)
        with self.assertRaises(TooMany):
            cutting(More(saying, saying))

    def test_asked_twice(self):
        self.assertEqual(cutting(MIDDLE), cutting(MIDDLE))

    def test_refused_right_under_say_error(self):
        for kind in (TooMany, NoCut):
            self.assertEqual(kind.__bases__, (SayError,))


class Holds(unittest.TestCase):
    def test_by_hand(self):
        tree = cut_by((2, 0, -1))
        for least, wanted in (((1, 2), True), ((0, 1), True), ((-7, 3), True), ((1, 3), True), ((499, 1000), True),
                              ((501, 1000), False), ((2, 3), False), ((1, 1), False), ((7, 1), False)):
            self.assertIs(holds(MIDDLE, tree, least), wanted)
            self.assertIs(holds(MIDDLE, cut_by((-2, 0, 1)), least), wanted)
            self.assertIs(holds(MIDDLE, cut_by((14, 0, -7)), least), wanted)

    def test_without_folds(self):
        self.assertIs(holds(P, LEAF, ZERO), True)
        self.assertIs(holds(P, LEAF, (1, 10 ** 20)), False)
        self.assertIs(holds(Not(Q), LEAF, ZERO), True)
        self.assertIs(holds(Never(), LEAF, ZERO), True)
        self.assertIs(holds(Never(), LEAF, (1, 10 ** 60 - 1)), False)
        self.assertIs(holds(Always(), LEAF, ONE), True)
        self.assertIs(holds(Always(), LEAF, (10 ** 60 - 1, 10 ** 60 - 2)), False)
        self.assertIs(holds(Always(), LEAF, (10 ** 60 - 2, 10 ** 60 - 1)), True)
        self.assertIs(holds(Always(), cut_by(SUM, cut_by(DIFFERENCE)), ONE), True)

    def test_a_fold_with_a_rule_all_over(self):
        self.assertIs(holds(Leads(P, P), LEAF, ONE), True)
        self.assertIs(holds(Leads(Never(), Q), LEAF, ONE), True)
        self.assertIs(holds(More(P, Not(P)), LEAF, ONE), True)
        self.assertIs(holds(More(P, Never()), LEAF, ONE), False)

    def test_a_finer_tree(self):
        middle = cut_by((2, 0, -1))
        for fine in (cut_by((2, 0, -1), cut_by(SUM), cut_by(DIFFERENCE)), cut_by(SUM, middle, middle), grid(20)):
            self.assertIs(holds(MIDDLE, fine, (1, 2)), True)
            self.assertIs(holds(MIDDLE, fine, (501, 1000)), False)

    def test_each_row_must_have_a_rule(self):
        for tree in (LEAF, cut_by(SUM), cut_by((3, 0, -1)), cut_by(SUM, cut_by((2, 0, -1))),
                     cut_by(SUM, LEAF, cut_by((2, 0, -1)))):
            self.assertIs(holds(MIDDLE, tree, ZERO), False)
            self.assertIs(holds(MIDDLE, tree, (-1, 1)), False)
        hidden = Lesser(Never(), MIDDLE)
        self.assertIs(holds(hidden, LEAF, ZERO), False)
        self.assertIs(holds(hidden, cut_by((2, 0, -1)), ZERO), True)

    def test_no_tree_on_the_square(self):
        for rule in NO_CUTS:
            for saying in (P, Always(), MIDDLE):
                self.assertIs(holds(saying, cut_by(rule), ZERO), False)
                self.assertIs(holds(saying, cut_by((2, 0, -1), cut_by(rule)), ZERO), False)
                self.assertIs(holds(saying, cut_by((2, 0, -1), LEAF, cut_by(rule)), ZERO), False)
        self.assertIs(holds(Always(), cut_by(SUM, LEAF, cut_by(SUM)), ONE), False)

    def test_parts_exchanged(self):
        saying = More(More(P, Q), P)
        tree = cutting(saying)
        self.assertIs(holds(saying, tree, ZERO), True)
        word, rule, low, high = tree
        self.assertNotEqual(low, high)
        self.assertIs(holds(saying, (word, rule, high, low), ZERO), False)

    def test_told_trees(self):
        for plan in some_folded_plans(94, 120, range(9)):
            saying = made(plan)
            tree = cutting(saying)
            least = least_in_corners(plan, tree)
            self.assertIs(holds(saying, tree, pair(least)), True, text_of(plan))
            self.assertIs(holds(saying, tree, pair(least + Fraction(1, 10 ** 9))), False)
            self.assertIs(holds(saying, tree, pair(least - Fraction(1, 10 ** 9))), True)
            if tree != LEAF:
                self.assertIs(holds(saying, LEAF, pair(least)), False)
                self.assertIs(holds(saying, tree[2], pair(least)), does_hold(plan, tree[2], pair(least)))

    def test_a_leaf_in_the_place_of_a_cut(self):
        for plan in some_folded_plans(95, 40, (3, 4, 5)):
            told = cutting(made(plan))
            word, rule, low, high = cut_by(SUM) if told == LEAF else told
            for tree in (cut_by(rule, LEAF, high), cut_by(rule, low, LEAF), cut_by(rule, high, low)):
                self.assertIs(holds(made(plan), tree, ZERO), does_hold(plan, tree, ZERO), (text_of(plan), tree))

    def test_trees_taken_by_chance(self):
        chance = random.Random(96)
        told = []
        for k in range(400):
            plan = some_folded_plan(chance, chance.choice((0, 0, 1, 1, 2)))
            tree = some_tree(chance, chance.choice((0, 1, 2, 6)))
            if chance.randrange(4) == 0:
                tree = cut_by(some_rule(chance, 2), tree, LEAF)
            least = chance.choice((ZERO, (1, 2), ONE, (-1, 2), (1, 5)))
            told.append(holds(made(plan), tree, least))
            self.assertIs(told[-1], does_hold(plan, tree, least), (text_of(plan), tree, least))
        self.assertGreater(min(told.count(True), told.count(False)), 40)

    def test_too_many(self):
        for saying in nine_folds():
            for tree in (LEAF, cut_by(SUM), cut_by((0, 0, 0))):
                with self.assertRaises(TooMany):
                    holds(saying, tree, ZERO)

    def test_deep_trees(self):
        self.assertIs(holds(P, narrowing(40), ZERO), True)
        self.assertIs(holds(P, narrowing(40), (1, 10 ** 9)), False)
        self.assertIs(holds(More(P, P), narrowing(40), ZERO), True)
        self.assertIs(holds(More(Q, Q), narrowing(40), ZERO), False)


class HoldsForBoth(unittest.TestCase):
    def assert_both(self, one, other, tree, wanted):
        self.assertIs(holds_for_both(one, other, tree), wanted)
        self.assertIs(holds_for_both(other, one, tree), wanted)

    def test_alike_written_otherwise(self):
        self.assert_both(P, P, LEAF, True)
        self.assert_both(P, Not(Not(P)), LEAF, True)
        self.assert_both(Always(), Not(Never()), LEAF, True)
        self.assert_both(Always(), Leads(P, P), LEAF, True)
        self.assert_both(More(P, Q), More(Q, P), cut_by(SUM), True)
        self.assert_both(More(P, Q), Leads(Not(P), Q), cut_by(SUM), True)
        self.assert_both(Less(P, Q), Not(More(Not(P), Not(Q))), cut_by(SUM), True)
        self.assert_both(Greater(P, Q), Not(Lesser(Not(P), Not(Q))), cut_by(DIFFERENCE), True)
        self.assert_both(Leads(P, Q), Leads(Not(Q), Not(P)), cut_by(DIFFERENCE), True)

    def test_unlike(self):
        for one, other in ((P, Q), (P, Not(P)), (Always(), Never()), (P, Never())):
            for tree in (LEAF, cut_by(SUM), cut_by(DIFFERENCE)):
                self.assert_both(one, other, tree, False)
        for one, other in ((Greater(P, Q), Lesser(P, Q)), (Greater(P, Q), P), (Lesser(P, Q), Q),
                           (Leads(P, Q), Always())):
            self.assert_both(one, other, cut_by(DIFFERENCE), False)
        self.assert_both(More(P, Q), Less(P, Q), cut_by(SUM), False)

    def test_unlike_on_the_last_hull_alone(self):
        self.assert_both(Greater(P, Q), Q, cut_by(DIFFERENCE), False)
        self.assert_both(Greater(P, Q), Q, cut_by((-1, 1, 0)), False)

    def test_each_row_of_both_must_have_a_rule(self):
        for tree in (LEAF, cut_by(DIFFERENCE), cut_by(SUM, cut_by(DIFFERENCE))):
            wanted = does_hold_for_both(("more", ("p",), ("q",)), ("more", ("q",), ("p",)), tree)
            self.assert_both(More(P, Q), More(Q, P), tree, wanted)
        self.assert_both(Lesser(Never(), More(P, Q)), Never(), LEAF, False)
        self.assert_both(Lesser(Never(), More(P, Q)), Never(), cut_by(SUM), True)

    def test_no_tree_on_the_square(self):
        for rule in NO_CUTS:
            self.assert_both(P, P, cut_by(rule), False)
            self.assert_both(P, P, cut_by(SUM, LEAF, cut_by(rule)), False)

    # On each hull of a tree taken by chance either may have a rule, and they may be alike there.
    def test_many(self):
        chance = random.Random(97)
        told = []
        for k in range(300):
            one = some_folded_plan(chance, chance.choice((0, 1, 2)))
            other = chance.choice((one, ("not", ("not", one)), some_folded_plan(chance, 1),
                                   ("lesser", one, ("always",))))
            tree = chance.choice((LEAF, some_tree(chance, 3), cutting(made(("greater", one, other)))))
            told.append(holds_for_both(made(one), made(other), tree))
            self.assertIs(told[-1], does_hold_for_both(one, other, tree), (text_of(one), text_of(other), tree))
        self.assertGreater(min(told.count(True), told.count(False)), 40)

    def test_eight_and_nine_folds_together(self):
        chance = random.Random(98)
        for ahead in range(9):
            one, other = some_folded_plan(chance, ahead), some_folded_plan(chance, 8 - ahead)
            self.assertEqual(folds_in(one) + folds_in(other), 8)
            tree = some_tree(chance, 2)
            self.assert_both(made(one), made(other), tree, does_hold_for_both(one, other, tree))
            for extra in (("not", ("more", one, ("p",))), ("leads", ("q",), one)):
                for asked in (LEAF, tree, cut_by((0, 0, 0))):
                    with self.assertRaises(TooMany):
                        holds_for_both(made(extra), made(other), asked)
                    with self.assertRaises(TooMany):
                        holds_for_both(made(other), made(extra), asked)
        same = made(some_folded_plan(chance, 4))
        tree = cutting(same)
        self.assert_both(same, same, tree, True)


if __name__ == "__main__":
    unittest.main()
