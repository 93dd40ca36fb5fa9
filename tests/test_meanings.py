"""Points [3], [18] and [19], and the interface's part leansay/meanings.py."""

import random
import unittest
from fractions import Fraction

from leansay.errors import NoLetter, NoRows, SayError
from leansay.lines import stays
from leansay.meanings import line_of, line_of_rows
from leansay.rows import rows_of
from leansay.sayings import Always, Greater, Leads, Less, Lesser, More, Never, Not, put_in
from plans import FOLDS, P, Q, height_on, line_fault, made, places_on, put_plan, some_plans, text_of, worth_of

ONE = (1, 1)
HALF = (1, 2)
NOUGHT_LINE = ((ONE, 0, 0),)
ALL_LINE = ((ONE, 0, 1),)
TENT = Lesser(More(P, P), More(Not(P), Not(P)))
TENT_PLAN = ("lesser", ("more", ("p",), ("p",)), ("more", ("not", ("p",)), ("not", ("p",))))


# Plans with no letter but p.
def some_plans_of_p(count, sizes):
    return [put_plan(plan, ("p",), ("p",)) for plan in some_plans(count, sizes)]


# A line that has the plan's worths where it bends, between, and at all i / n for n to 16, and is a line, is the one.
class Meanings(unittest.TestCase):
    def assert_means(self, line, plan):
        self.assertIsNone(line_fault(line), line)
        self.assertIs(stays(line), True)
        for n in range(1, 17):
            for i in range(n + 1):
                self.assertEqual(n * height_on(line, Fraction(i, n)), worth_of(plan, n, i, 0), (text_of(plan), i, n))
        for x in places_on(line):
            n = x.denominator
            self.assertEqual(n * height_on(line, x), worth_of(plan, n, x.numerator, 0), (text_of(plan), x))

    def test_each_kind(self):
        for saying, line in (
            (Never(), NOUGHT_LINE),
            (Always(), ALL_LINE),
            (P, ((ONE, 1, 0),)),
            (Not(P), ((ONE, -1, 1),)),
            (More(P, P), ((HALF, 2, 0), (ONE, 0, 1))),
            (Less(P, P), ((HALF, 0, 0), (ONE, 2, -1))),
            (Greater(P, Not(P)), ((HALF, -1, 1), (ONE, 1, 0))),
            (Lesser(P, Not(P)), ((HALF, 1, 0), (ONE, -1, 1))),
            (Leads(P, Not(P)), ((HALF, 0, 1), (ONE, -2, 2))),
            (Leads(Not(P), P), ((HALF, 2, 0), (ONE, 0, 1))),
            (Leads(P, P), ALL_LINE),
            (Leads(P, Never()), ((ONE, -1, 1),)),
            (Not(Always()), NOUGHT_LINE),
            (TENT, ((HALF, 2, 0), (ONE, -2, 2))),
        ):
            with self.subTest(saying.told()):
                self.assertEqual(line_of(saying), line)
                self.assertEqual(line_of_rows(rows_of(saying)), line)

    def test_each_fold(self):
        for word in FOLDS:
            for one in (("p",), ("not", ("p",)), ("never",), ("always",), ("more", ("p",), ("p",))):
                for other in (("p",), ("not", ("p",)), ("never",), ("less", ("p",), ("p",))):
                    self.assert_means(line_of(made((word, one, other))), (word, one, other))

    def test_many(self):
        for plan in some_plans_of_p(250, range(1, 25)):
            self.assert_means(line_of(made(plan)), plan)

    def test_sixty_parts(self):
        for plan in some_plans_of_p(25, (58, 59, 60)):
            self.assert_means(line_of(made(plan)), plan)

    def test_tents_within_tents(self):
        saying = TENT
        for k in range(7):
            saying = put_in(TENT, saying, P)
        line = line_of(saying)
        self.assertEqual([stretch[1:] for stretch in line[:4]], [(256, 0), (-256, 2), (256, -2), (-256, 4)])
        self.assertEqual(len(line), 256)
        self.assertIsNone(line_fault(line))
        plan = put_plan(TENT_PLAN, TENT_PLAN, TENT_PLAN)
        self.assert_means(line_of(made(plan)), plan)

    def test_sayings_alike_have_one_line(self):
        self.assertEqual(line_of(Not(Not(P))), line_of(P))
        self.assertEqual(line_of(Not(Less(Not(P), Not(P)))), line_of(More(P, P)))
        self.assertEqual(line_of(Leads(Leads(P, Not(P)), Not(P))), line_of(Greater(P, Not(P))))

    def test_begins_and_ends_with_0_or_1(self):
        for plan in some_plans_of_p(100, range(1, 30)):
            line = line_of(made(plan))
            self.assertIn(height_on(line, Fraction(0)), (0, 1))
            self.assertIn(height_on(line, Fraction(1)), (0, 1))


class NoLetters(unittest.TestCase):
    def test_just_where_q_stands(self):
        for plan in some_plans(300, range(1, 25)):
            saying = made(plan)
            with self.subTest(text_of(plan)):
                if "q" in text_of(plan).split(" "):
                    with self.assertRaises(NoLetter):
                        line_of(saying)
                else:
                    self.assertIsNone(line_fault(line_of(saying)))

    def test_anywhere_in_it(self):
        for saying in (Q, Not(Q), More(P, Q), More(Q, P), Less(P, Not(Q)), Lesser(Never(), Q), Greater(Q, Always()),
                       Leads(Not(Less(P, Leads(P, Q))), P), Leads(Not(Less(Leads(Q, P), P)), P)):
            with self.assertRaises(NoLetter):
                line_of(saying)
        self.assertEqual(line_of(P), ((ONE, 1, 0),))

    def test_refused_right_under_say_error(self):
        with self.assertRaises(SayError):
            line_of(Q)


class OfRows(unittest.TestCase):
    def assert_line(self, rows, line):
        kept = list(rows)
        self.assertEqual(line_of_rows(rows), line)
        self.assertEqual(rows, kept)

    def test_many(self):
        for plan in some_plans_of_p(150, range(1, 40)):
            saying = made(plan)
            self.assert_line(rows_of(saying), line_of(saying))

    def test_shared_rows(self):
        rows = [("p",)] + [("more", k, k) for k in range(60)]
        self.assert_line(rows, (((1, 2 ** 60), 2 ** 60, 0), (ONE, 0, 1)))
        rows = [("p",)] + [("less", k, k) for k in range(60)]
        self.assert_line(rows, (((2 ** 60 - 1, 2 ** 60), 0, 0), (ONE, 2 ** 60, 1 - 2 ** 60)))
        rows = [("p",)] + [("more", k, k) for k in range(399)]
        self.assert_line(rows, (((1, 2 ** 399), 2 ** 399, 0), (ONE, 0, 1)))
        rows = [("p",)] + [("leads", k, k) for k in range(60)]
        self.assert_line(rows, ALL_LINE)

    def test_two_hundred_stretches(self):
        rows = [("p",)]
        for k in range(7):
            last = len(rows) - 1
            rows.extend([("not", last), ("more", last, last), ("more", last + 1, last + 1), ("lesser", last + 2, last + 3)])
        line = line_of_rows(rows)
        self.assertEqual(len(line), 128)
        self.assertIsNone(line_fault(line))
        self.assertEqual([stretch[1:] for stretch in line[:2]], [(128, 0), (-128, 2)])
        self.assertEqual([stretch[1:] for stretch in line[-1:]], [(-128, 128)])

    def test_alike_rows_and_rows_that_none_uses(self):
        self.assert_line([("p",), ("p",), ("more", 0, 1)], ((HALF, 2, 0), (ONE, 0, 1)))
        self.assert_line([("p",), ("not", 0), ("never",)], NOUGHT_LINE)
        self.assert_line([("always",), ("p",), ("never",), ("not", 1)], ((ONE, -1, 1),))

    def test_each_index(self):
        self.assert_line([("p",), ("always",), ("leads", 1, 0)], ((ONE, 1, 0),))
        self.assert_line([("p",), ("never",), ("leads", 0, 1)], ((ONE, -1, 1),))

    def test_no_letter(self):
        for rows in ([("q",)], [("p",), ("q",), ("more", 0, 1)], [("q",), ("p",)], [("p",), ("q",), ("never",)],
                     [("p",)] * 399 + [("q",)], [("q",)] + [("p",)] * 399):
            with self.assertRaises(NoLetter):
                line_of_rows(rows)

    def test_no_rows(self):
        for things, at in (([], 0), ([None], 0), ([("p",), ("not", 1)], 1), ([("p",), ("not", True)], 1),
                           ([("p",)] * 401, 400), ([("p",), ["p"]], 1), ([("p",), ("mor", 0, 0)], 1)):
            with self.assertRaises(NoRows) as caught:
                line_of_rows(things)
            self.assertEqual(caught.exception.at, at)

    def test_no_rows_ahead_of_no_letter(self):
        for things, at in (([("q",), None], 1), ([("q",), ("not", 1), ("q",)], 1), ([("q",)] * 401, 400)):
            with self.assertRaises(NoRows) as caught:
                line_of_rows(things)
            self.assertEqual(caught.exception.at, at)


if __name__ == "__main__":
    unittest.main()
