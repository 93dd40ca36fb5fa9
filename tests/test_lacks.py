"""Points [3], [32] and [33], and the interface's part leansay/lacks.py."""

import random
import unittest
from fractions import Fraction

from leansay.errors import TooMany
from leansay.lacks import alike, lack
from leansay.points import is_point
from leansay.reading import read
from leansay.sayings import Always, Greater, Leads, Less, Lesser, More, Never, Not
from leansay.trees import holds, holds_for_both
from plans import (P, Q, all_steps, does_hold, does_hold_for_both, is_pair, made, pair, put_plan, some_folded_plan,
                   text_of, tree_size, worth_of)

# (the one, the other, what the one lacks of leading to it)
LACKS = (
    ("p", "p", (0, 1)), ("p", "q", (1, 1)), ("always", "p", (1, 1)), ("never", "p", (0, 1)), ("p", "always", (0, 1)),
    ("always", "never", (1, 1)), ("never", "always", (0, 1)), ("p", "not p", (1, 1)), ("p", "not not p", (0, 1)),
    ("p", "( p less p )", (1, 2)), ("( p more p )", "p", (1, 2)), ("( p less p )", "p", (0, 1)),
    ("p", "( p greater q )", (0, 1)), ("p", "( p lesser q )", (1, 1)), ("( p lesser q )", "( p less q )", (1, 2)),
    ("( p more q )", "( p greater q )", (1, 2)), ("( p more p )", "( p less p )", (1, 1)),
    ("always", "( p greater not p )", (1, 2)), ("always", "( p greater ( not p less not p ) )", (2, 3)),
    ("( p lesser not p )", "never", (1, 2)), ("( ( p more p ) lesser not p )", "never", (2, 3)),
    ("( ( p less p ) lesser not p )", "never", (1, 3)),
    ("( ( p more p ) more p )", "p", (2, 3)), ("( p more ( p more p ) )", "( p more p )", (1, 3)),
    ("( p leads q )", "( not q leads not p )", (0, 1)), ("( p leads q )", "( q leads p )", (1, 1)),
    ("p", "( ( p less p ) less p )", (2, 3)),
)

# Schemes that are worth the same whatever stands in them.
ALIKE = (
    ("p", "not not p"), ("p", "( p greater p )"), ("p", "( p lesser p )"), ("( p more q )", "( q more p )"),
    ("( p less q )", "( q less p )"), ("( p greater q )", "( q greater p )"), ("( p lesser q )", "( q lesser p )"),
    ("( p more q )", "( not p leads q )"), ("( p less q )", "not ( p leads not q )"),
    ("( p leads q )", "( not q leads not p )"), ("( p leads q )", "( not p more q )"),
    ("( p more q )", "not ( not p less not q )"), ("( p greater q )", "not ( not p lesser not q )"),
    ("( p greater q )", "( ( p leads q ) leads q )"), ("( p greater q )", "( ( p less not q ) more q )"),
    ("( p lesser q )", "( p less ( p leads q ) )"), ("( p lesser q )", "( ( p more not q ) less q )"),
    ("( ( p leads q ) leads q )", "( ( q leads p ) leads p )"),
    ("( p more ( p more q ) )", "( ( p more p ) more q )"), ("( p less ( q less q ) )", "( ( p less q ) less q )"),
    ("( p greater ( p lesser q ) )", "p"), ("( p lesser ( p greater q ) )", "p"),
    ("( p leads ( q leads p ) )", "always"), ("( p more always )", "always"), ("( p less never )", "never"),
    ("( p more never )", "p"), ("( p less always )", "p"), ("( always leads p )", "p"), ("( p leads never )", "not p"),
    ("( p leads p )", "always"), ("( p less not p )", "never"), ("( p more not p )", "always"),
    ("( ( p lesser q ) more p )", "( ( p more p ) lesser ( q more p ) )"),
    ("( ( p greater q ) less q )", "( ( p less q ) greater ( q less q ) )"),
)

UNLIKE = (
    ("p", "q"), ("p", "not p"), ("always", "never"), ("p", "never"), ("p", "always"), ("p", "( p more p )"),
    ("p", "( p less p )"), ("( p more q )", "( p greater q )"), ("( p less q )", "( p lesser q )"),
    ("( p leads q )", "( q leads p )"), ("( p greater not p )", "always"), ("( p lesser not p )", "never"),
    ("( p leads q )", "( not p greater q )"), ("( p greater q )", "p"), ("( p lesser q )", "q"),
    ("( ( p more p ) less ( p more p ) )", "( ( p less p ) more ( p less p ) )"),
    ("( ( p leads q ) leads q )", "( ( q leads p ) leads q )"),
)


def some_pairs(seed, count, together):
    chance = random.Random(seed)
    for k in range(count):
        folds = chance.choice(together)
        ahead = chance.randrange(folds + 1)
        yield some_folded_plan(chance, ahead), some_folded_plan(chance, folds - ahead)


def plan_by(text):
    words = text.split(" ")

    def taken():
        word = words.pop(0)
        if word == "not":
            return ("not", taken())
        if word != "(":
            return (word,)
        one, fold, other = taken(), words.pop(0), taken()
        words.pop(0)
        return (fold, one, other)

    return taken()


class Lack(unittest.TestCase):
    # The tree holds, so it lacks no more; and at the point it lacks so much.
    def assert_lack(self, one, other):
        told = lack(made(one), made(other))
        self.assertEqual((type(told), len(told)), (tuple, 3))
        found, point, tree = told
        self.assertTrue(is_pair(found))
        self.assertTrue(is_point(point))
        n = point[0]
        rest = 1 - Fraction(*found)
        self.assertTrue(0 <= rest <= 1)
        self.assertEqual(worth_of(("leads", one, other), *point), n * rest)
        self.assertEqual(max(worth_of(one, *point) - worth_of(other, *point), 0), n * Fraction(*found))
        self.assertIs(holds(Leads(made(one), made(other)), tree, pair(rest)), True)
        self.assertTrue(does_hold(("leads", one, other), tree, pair(rest)))
        cuts, depth, greatest = tree_size(tree)
        self.assertTrue(cuts <= 400 and depth <= 40 and greatest < 10 ** 9)
        return found

    def test_by_hand(self):
        for one, other, wanted in LACKS:
            with self.subTest((one, other)):
                self.assertEqual(lack(read(one), read(other))[0], wanted)
                self.assert_lack(plan_by(one), plan_by(other))

    def test_to_itself(self):
        for plan, other in some_pairs(120, 40, (0, 1, 2, 3)):
            self.assertEqual(self.assert_lack(plan, plan), (0, 1))

    def test_to_always_and_of_never(self):
        for plan, other in some_pairs(121, 40, (0, 1, 3, 6)):
            self.assertEqual(self.assert_lack(plan, ("always",)), (0, 1))
            self.assertEqual(self.assert_lack(("never",), plan), (0, 1))

    def test_many(self):
        found = set()
        for one, other in some_pairs(122, 600, (1, 2, 3, 4, 5, 6)):
            found.add(self.assert_lack(one, other))
        self.assertGreater(len(found), 4)

    def test_no_step_of_few_lacks_more(self):
        for one, other in some_pairs(123, 40, (2, 4, 6)):
            found = Fraction(*lack(made(one), made(other))[0])
            for n in range(1, 8):
                for point in all_steps(n):
                    self.assertLessEqual(worth_of(one, *point) - worth_of(other, *point), n * found)

    def test_seven_folds_together(self):
        for one, other in some_pairs(124, 25, (7,)):
            self.assert_lack(one, other)

    def test_eight_folds_together_are_refused(self):
        for one, other in some_pairs(125, 25, (8, 9, 14)):
            with self.assertRaises(TooMany):
                lack(made(one), made(other))
        eight = some_folded_plan(random.Random(126), 8)
        for one, other in ((eight, ("p",)), (("p",), eight), (eight, eight)):
            with self.assertRaises(TooMany):
                lack(made(one), made(other))


class Alike(unittest.TestCase):
    def assert_alike(self, one, other, wanted):
        told = alike(made(one), made(other))
        self.assertEqual((type(told), len(told)), (tuple, 2))
        self.assertEqual(told[0], "alike" if wanted else "unlike", (text_of(one), text_of(other)))
        if wanted:
            self.assertIs(holds_for_both(made(one), made(other), told[1]), True)
            self.assertTrue(does_hold_for_both(one, other, told[1]))
            cuts, depth, greatest = tree_size(told[1])
            self.assertTrue(cuts <= 400 and depth <= 40 and greatest < 10 ** 9)
        else:
            self.assertTrue(is_point(told[1]))
            self.assertNotEqual(worth_of(one, *told[1]), worth_of(other, *told[1]))

    def test_schemes(self):
        for one, other in ALIKE:
            self.assert_alike(plan_by(one), plan_by(other), True)
            self.assert_alike(plan_by(other), plan_by(one), True)

    def test_schemes_with_sayings_in_them(self):
        chance = random.Random(127)
        counted = 0
        for k in range(6):
            for one, other in ALIKE:
                first, second = some_folded_plan(chance, chance.choice((0, 1))), some_folded_plan(chance, 0)
                plans = [put_plan(plan_by(text), first, second) for text in (one, other)]
                if sum(made(plan).folds() for plan in plans) <= 8:
                    self.assert_alike(plans[0], plans[1], True)
                    counted += 1
        self.assertGreater(counted, 100)

    def test_unlike(self):
        for one, other in UNLIKE:
            self.assert_alike(plan_by(one), plan_by(other), False)
            self.assert_alike(plan_by(other), plan_by(one), False)

    # Where two are unlike they are so at a step of few, mostly; where they are alike they are so at all steps.
    def test_many(self):
        told = []
        for one, other in some_pairs(128, 300, (0, 1, 2, 3, 4)):
            points = [point for n in (1, 4, 5, 6) for point in all_steps(n)]
            wanted = all(worth_of(one, *point) == worth_of(other, *point) for point in points)
            self.assert_alike(one, other, wanted)
            told.append(wanted)
        self.assertGreater(told.count(True), 5)

    def test_with_itself(self):
        for plan, other in some_pairs(129, 40, (0, 1, 2, 3, 4)):
            self.assert_alike(plan, plan, True)
            self.assert_alike(plan, ("not", ("not", plan)), True)

    def test_alike_where_each_lacks_nothing_of_leading_to_the_other(self):
        for one, other in some_pairs(130, 60, (1, 2, 3)):
            lacks = [lack(made(one), made(other))[0], lack(made(other), made(one))[0]]
            self.assertEqual(alike(made(one), made(other))[0] == "alike", lacks == [(0, 1), (0, 1)])

    def test_eight_folds_together(self):
        chance = random.Random(131)
        for one, other in some_pairs(132, 25, (8,)):
            found = alike(made(one), made(other))[0]
            self.assert_alike(one, other, found == "alike")
        for k in range(5):
            plan = some_folded_plan(chance, 4)
            self.assert_alike(plan, ("not", ("not", plan)), True)

    def test_nine_folds_together_are_refused(self):
        for one, other in some_pairs(133, 25, (9, 10, 16)):
            with self.assertRaises(TooMany):
                alike(made(one), made(other))
        nine = Always()
        for k in range(9):
            nine = More(P, nine)
        for one, other in ((nine, P), (P, nine), (nine, nine)):
            with self.assertRaises(TooMany):
                alike(one, other)


class Kept(unittest.TestCase):
    def test_what_is_handed_in_stays(self):
        for one, other in ((More(P, Q), Greater(P, Q)), (Less(P, Not(Q)), Lesser(P, Q)), (Never(), Always())):
            texts = (one.told(), other.told())
            first = (lack(one, other), alike(one, other))
            self.assertEqual((one.told(), other.told()), texts)
            self.assertEqual((lack(one, other), alike(one, other)), first)


if __name__ == "__main__":
    unittest.main()
