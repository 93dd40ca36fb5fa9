"""Points [2], [5], [6], [8], [9] and [10], and the interface's part leansay/sayings.py."""

import random
import unittest

from leansay.sayings import (Always, Fold, Greater, Leads, Less, Lesser, Letter, More, Never, Not, Saying,
                             put_in)
from plans import FOLDS, LARGE, P, Q, SIXTY, made, put_plan, some_plans, some_points, text_of, words_of, worth_of


class Classes(unittest.TestCase):
    def test_what_stands_right_under_what(self):
        for kind in (Never, Always, Letter, Not, Fold):
            with self.subTest(kind):
                self.assertEqual(kind.__bases__, (Saying,))
        for kind in FOLDS.values():
            with self.subTest(kind):
                self.assertEqual(kind.__bases__, (Fold,))

    def test_fields(self):
        self.assertEqual(Letter("p").name, "p")
        self.assertEqual(Letter("q").name, "q")
        self.assertIs(Not(P).part, P)
        for kind in FOLDS.values():
            with self.subTest(kind):
                fold = kind(P, Q)
                self.assertIs(fold.one, P)
                self.assertIs(fold.other, Q)

    def test_fields_by_their_names(self):
        self.assertEqual(Letter(name="q").told(), "q")
        self.assertEqual(Not(part=P).told(), "not p")
        self.assertEqual(Leads(other=P, one=Q).told(), "( q leads p )")


class Told(unittest.TestCase):
    def test_each_kind(self):
        self.assertEqual(Never().told(), "never")
        self.assertEqual(Always().told(), "always")
        self.assertEqual(P.told(), "p")
        self.assertEqual(Q.told(), "q")
        self.assertEqual(Not(P).told(), "not p")
        self.assertEqual(More(P, Q).told(), "( p more q )")
        self.assertEqual(Less(P, Q).told(), "( p less q )")
        self.assertEqual(Greater(P, Q).told(), "( p greater q )")
        self.assertEqual(Lesser(P, Q).told(), "( p lesser q )")
        self.assertEqual(Leads(P, Q).told(), "( p leads q )")

    def test_sayings_within_sayings(self):
        self.assertEqual(Leads(P, Not(Q)).told(), "( p leads not q )")
        self.assertEqual(Not(Leads(P, Q)).told(), "not ( p leads q )")
        self.assertEqual(Not(Not(Always())).told(), "not not always")
        self.assertEqual(More(Less(P, Never()), Greater(Q, P)).told(), "( ( p less never ) more ( q greater p ) )")
        self.assertEqual(Lesser(Not(More(P, P)), Always()).told(), "( not ( p more p ) lesser always )")

    def test_many(self):
        for plan in some_plans(300, range(1, 30)):
            with self.subTest(text_of(plan)):
                self.assertEqual(made(plan).told(), text_of(plan))

    def test_same_each_time(self):
        saying = Leads(P, More(Q, Not(P)))
        self.assertEqual([saying.told() for k in range(3)], ["( p leads ( q more not p ) )"] * 3)


class Counted(unittest.TestCase):
    def assert_counts(self, saying, parts, folds):
        self.assertEqual((saying.parts(), saying.folds()), (parts, folds))
        self.assertEqual((type(saying.parts()), type(saying.folds())), (int, int))

    def test_each_kind(self):
        for leaf in (Never(), Always(), P, Q):
            self.assert_counts(leaf, 1, 0)
        self.assert_counts(Not(P), 2, 0)
        self.assert_counts(Not(Not(P)), 3, 0)
        for kind in FOLDS.values():
            self.assert_counts(kind(P, Q), 3, 1)
            self.assert_counts(kind(Not(P), kind(P, Never())), 6, 2)

    def test_one_object_in_several_places(self):
        self.assert_counts(More(P, P), 3, 1)
        twice = Less(P, Not(Q))
        self.assert_counts(Leads(twice, twice), 9, 3)
        self.assert_counts(Not(Greater(Leads(twice, twice), twice)), 15, 5)
        doubled = P
        for k in range(5):
            doubled = More(doubled, doubled)
        self.assert_counts(doubled, 63, 31)

    def test_unlike_objects_with_the_same_text(self):
        self.assert_counts(More(Letter("p"), Letter("p")), 3, 1)

    def test_many(self):
        for plan in some_plans(300, range(1, 30)):
            with self.subTest(text_of(plan)):
                words = words_of(plan)
                self.assert_counts(made(plan), len(words) - 2 * words.count("("), words.count("("))


class Letters(unittest.TestCase):
    def test_each(self):
        for saying in (Never(), Always(), Not(Never()), Leads(Always(), Never())):
            self.assertEqual(saying.letters(), [])
        for saying in (P, Not(P), More(P, P), Less(Never(), Not(P))):
            self.assertEqual(saying.letters(), ["p"])
        for saying in (Q, Not(Q), More(Q, Q), Less(Not(Q), Always())):
            self.assertEqual(saying.letters(), ["q"])
        for saying in (More(P, Q), More(Q, P), Not(Leads(Q, Less(P, Q)))):
            self.assertEqual(saying.letters(), ["p", "q"])

    def test_a_new_list_each_time(self):
        for saying in (Never(), P, Q, Lesser(Q, P)):
            with self.subTest(saying.told()):
                first = saying.letters()
                self.assertIs(type(first), list)
                wanted = list(first)
                first.append("r")
                first.reverse()
                self.assertEqual(saying.letters(), wanted)
                self.assertIsNot(saying.letters(), saying.letters())

    def test_many(self):
        for plan in some_plans(200, range(1, 12)):
            with self.subTest(text_of(plan)):
                self.assertEqual(made(plan).letters(), [name for name in ("p", "q") if name in words_of(plan)])


class Worths(unittest.TestCase):
    def assert_worth(self, saying, point, worth):
        told = saying.out_of(*point)
        self.assertEqual(told, worth, (saying.told(), point))
        self.assertIs(type(told), int)

    def test_without_folds(self):
        for n in (1, 2, 5, 40, LARGE, SIXTY):
            for x in (0, 1, n // 2, n - 1, n):
                y = n - x // 3
                self.assert_worth(Never(), (n, x, y), 0)
                self.assert_worth(Always(), (n, x, y), n)
                self.assert_worth(P, (n, x, y), x)
                self.assert_worth(Q, (n, x, y), y)
                self.assert_worth(Not(P), (n, x, y), n - x)
                self.assert_worth(Not(Q), (n, x, y), n - y)
                self.assert_worth(Not(Not(P)), (n, x, y), x)

    def test_corners(self):
        corners = ((0, 0), (0, 1), (1, 0), (1, 1))
        wanted = {More: (0, 1, 1, 1), Less: (0, 0, 0, 1), Greater: (0, 1, 1, 1), Lesser: (0, 0, 0, 1),
                  Leads: (1, 1, 0, 1)}
        for kind, worths in wanted.items():
            for (x, y), worth in zip(corners, worths):
                for n in (1, 2, 7, LARGE):
                    self.assert_worth(kind(P, Q), (n, n * x, n * y), n * worth)

    def test_just_at_and_beyond_the_bounds(self):
        for n in (4, 10, 40, LARGE, SIXTY):
            for x in (1, 2, n // 2, n - 1):
                self.assert_worth(More(P, Q), (n, x, n - x - 1), n - 1)
                self.assert_worth(More(P, Q), (n, x, n - x), n)
                self.assert_worth(More(P, Q), (n, x, n - x + 1), n)
                self.assert_worth(Less(P, Q), (n, x, n - x - 1), 0)
                self.assert_worth(Less(P, Q), (n, x, n - x), 0)
                self.assert_worth(Less(P, Q), (n, x, n - x + 1), 1)
                self.assert_worth(Leads(P, Q), (n, x, x - 1), n - 1)
                self.assert_worth(Leads(P, Q), (n, x, x), n)
                self.assert_worth(Leads(P, Q), (n, x, x + 1), n)
                self.assert_worth(Greater(P, Q), (n, x, x + 1), x + 1)
                self.assert_worth(Greater(P, Q), (n, x, x - 1), x)
                self.assert_worth(Lesser(P, Q), (n, x, x + 1), x)
                self.assert_worth(Lesser(P, Q), (n, x, x - 1), x - 1)

    def test_each_fold_of_one_object_twice(self):
        for n, x in ((5, 2), (5, 3), (LARGE, LARGE // 3)):
            self.assert_worth(More(P, P), (n, x, 0), min(2 * x, n))
            self.assert_worth(Less(P, P), (n, x, 0), max(2 * x - n, 0))
            self.assert_worth(Greater(P, P), (n, x, 0), x)
            self.assert_worth(Lesser(P, P), (n, x, 0), x)
            self.assert_worth(Leads(P, P), (n, x, 0), n)

    def test_each_fold_on_all_steps(self):
        for word, kind in FOLDS.items():
            for n in (1, 2, 3, 6):
                for x in range(n + 1):
                    for y in range(n + 1):
                        self.assert_worth(kind(P, Q), (n, x, y), worth_of((word, ("p",), ("q",)), n, x, y))
                        self.assert_worth(kind(Q, Not(P)), (n, x, y),
                                          worth_of((word, ("q",), ("not", ("p",))), n, x, y))

    def test_many(self):
        chance = random.Random(11)
        for plan in some_plans(300, range(1, 30)):
            saying = made(plan)
            for point in some_points(chance, 8):
                self.assert_worth(saying, point, worth_of(plan, *point))

    def test_k_times_as_much(self):
        chance = random.Random(12)
        for plan in some_plans(60, range(1, 25)):
            saying = made(plan)
            for n, x, y in some_points(chance, 3):
                for k in (2, 7, LARGE):
                    self.assert_worth(saying, (k * n, k * x, k * y), k * saying.out_of(n, x, y))


class PutIn(unittest.TestCase):
    def test_by_hand(self):
        one = Not(Q)
        other = More(P, Never())
        for saying, text in (
            (Never(), "never"),
            (Always(), "always"),
            (P, "not q"),
            (Q, "( p more never )"),
            (Not(P), "not not q"),
            (More(P, Q), "( not q more ( p more never ) )"),
            (Less(Q, P), "( ( p more never ) less not q )"),
            (Greater(P, Always()), "( not q greater always )"),
            (Lesser(P, P), "( not q lesser not q )"),
            (Leads(Not(Q), Leads(P, Q)), "( not ( p more never ) leads ( not q leads ( p more never ) ) )"),
        ):
            with self.subTest(saying.told()):
                self.assertEqual(put_in(saying, one, other).told(), text)

    def test_letters_put_for_one_another(self):
        self.assertEqual(put_in(Leads(P, Q), Q, P).told(), "( q leads p )")
        self.assertEqual(put_in(Leads(P, Q), P, Q).told(), "( p leads q )")

    def test_many(self):
        chance = random.Random(13)
        plans = some_plans(360, range(1, 14))
        for whole, one, other in zip(plans[:120], plans[120:240], plans[240:]):
            sayings = [made(plan) for plan in (whole, one, other)]
            told = put_in(*sayings)
            wanted = put_plan(whole, one, other)
            with self.subTest(text_of(wanted)):
                self.assertIsInstance(told, Saying)
                self.assertEqual(told.told(), text_of(wanted))
                self.assertEqual([saying.told() for saying in sayings], [text_of(plan) for plan in (whole, one, other)])
                for n, x, y in some_points(chance, 5):
                    put_worths = [saying.out_of(n, x, y) for saying in sayings[1:]]
                    self.assertEqual(told.out_of(n, x, y), sayings[0].out_of(n, *put_worths))

    def test_nothing_handed_in_is_changed(self):
        part = Not(Q)
        saying = More(part, Letter("p"))
        fields = dict(vars(saying))
        told = put_in(saying, Always(), saying)
        self.assertEqual(told.told(), "( not ( not q more p ) more always )")
        self.assertEqual(vars(saying), fields)
        self.assertIs(part.part, Q)
        self.assertEqual(saying.told(), "( not q more p )")
        self.assertEqual(Q.told(), "q")

    def test_a_saying_put_in_itself(self):
        saying = Less(P, Not(Q))
        self.assertEqual(put_in(saying, saying, saying).told(), "( ( p less not q ) less not ( p less not q ) )")
        self.assertEqual(saying.told(), "( p less not q )")

    def test_each_telling_stays_as_it_was(self):
        saying = Leads(P, Q)
        first = put_in(saying, Never(), Not(P))
        second = put_in(saying, Q, Always())
        self.assertEqual(first.told(), "( never leads not p )")
        self.assertEqual(second.told(), "( q leads always )")


class Large(unittest.TestCase):
    def test_sixty_parts(self):
        chance = random.Random(14)
        for plan in some_plans(60, (60,)):
            saying = made(plan)
            self.assertEqual(saying.parts(), 60)
            self.assertEqual(saying.folds(), words_of(plan).count("("))
            self.assertEqual(saying.told(), text_of(plan))
            for point in some_points(chance, 4):
                self.assertEqual(saying.out_of(*point), worth_of(plan, *point))
            told = put_in(saying, saying, Not(saying))
            self.assertEqual(told.told(), text_of(put_plan(plan, plan, ("not", plan))))

    def test_sixty_parts_within_one_another(self):
        saying = P
        for k in range(59):
            saying = Not(saying)
        self.assertEqual(saying.told(), "not " * 59 + "p")
        self.assertEqual((saying.parts(), saying.folds(), saying.letters()), (60, 0, ["p"]))
        self.assertEqual(saying.out_of(9, 2, 0), 7)

    def test_what_was_told_of_any_size(self):
        left = Leads(P, Q)
        right = Not(More(Q, P))
        for k in range(12):
            left = put_in(left, left, Q)
            right = put_in(right, P, right)
        self.assertEqual(left.told(), "( " * 4096 + "p" + " leads q )" * 4096)
        self.assertEqual((left.parts(), left.folds(), left.letters()), (8193, 4096, ["p", "q"]))
        self.assertEqual(left.out_of(7, 5, 3), worth_of(("leads", ("leads", ("p",), ("q",)), ("q",)), 7, 5, 3))
        self.assertEqual(right.told(), "not ( " * 4096 + "q" + " more p )" * 4096)
        self.assertEqual((right.parts(), right.folds(), right.letters()), (3 * 4096 + 1, 4096, ["p", "q"]))
        self.assertEqual(put_in(right, Never(), P).letters(), ["p"])


if __name__ == "__main__":
    unittest.main()
