"""Points [12] and [13], and the interface's part leansay/rows.py."""

import random
import unittest

from leansay.errors import NoPoint, NoRows, SayError
from leansay.rows import rows_fault, rows_of, worth_of_rows
from leansay.sayings import Always, Greater, Leads, Less, Lesser, Letter, More, Never, Not
from plans import (FOLDS, LARGE, LEAVES, P, Q, SIXTY, made, some_plan, some_plans, some_points, some_rows, text_of,
                   worth_of, worths_row_by_row)


class Strange:
    def __eq__(self, other):
        raise RuntimeError("not to be held against anything")


# Things that can be no row at any place, but for those whose indexes are below it.
NEVER_ROWS = [
    (), ("nevr",), ("Never",), ("never ",), ("",), ("r",), ("pp",), ("not",), ("more",), ("(",), ("leads",),
    ("never", 0), ("always", 0), ("p", 0), ("q", 0, 0), ("not", 0, 0), ("not", 0, 0, 0), ("more", 0), ("leads", 0, 0, 0),
    ("never", None), ("nott", 0), ("Not", 0), ("mor", 0, 0), ("and", 0, 0), ("MORE", 0, 0), ("more", 0, 0, None),
    ("not", -1), ("not", True), ("not", False), ("not", None), ("not", "0"), ("not", 0.0), ("not", (0,)), ("not", [0]),
    ("more", -1, 0), ("more", 0, -1), ("more", True, 0), ("more", 0, True), ("more", False, 0), ("more", 0, False),
    ("more", None, 0), ("more", 0, None), ("more", "0", 0), ("more", 0, "0"), ("more", 0, (0, 1)), ("less", -SIXTY, 0),
    ("not", SIXTY), ("greater", 0, SIXTY), (None,), (0,), (None, 0, 0), (0, 0, 0), (["never"],), (("never",),),
    (["more"], 0, 0), (True,), (b"p",), (0, "more", 0), ("not", Strange()), (Strange(),), (Strange(), 0, 0),
    ["never"], ["p"], ["not", 0], ["more", 0, 0], [], {}, {"never": 0}, {"never"}, None, "never", "p", "", 0, 1, True,
    P, Never(), Strange(), int, b"never", 0.5,
]


def plan_of(rows, place):
    return (rows[place][0],) + tuple(plan_of(rows, index) for index in rows[place][1:])


# Each unlike part of the plan once, in the order that [13] tells; parts are named by their places.
def rows_by_plan(plan):
    plans = []

    def put(part):
        for inner in part[1:]:
            put(inner)
        if part not in plans:
            plans.append(part)

    put(plan)
    return [(part[0],) + tuple(plans.index(inner) for inner in part[1:]) for part in plans]


class RowsFault(unittest.TestCase):
    def test_rows(self):
        for leaf in LEAVES:
            self.assertIsNone(rows_fault([(leaf,)]))
            self.assertIsNone(rows_fault([(leaf,), ("not", 0)]))
            for word in FOLDS:
                self.assertIsNone(rows_fault([(leaf,), (word, 0, 0)]))
                self.assertIsNone(rows_fault([(leaf,), ("p",), (word, 0, 1), (word, 1, 2), ("not", 3)]))

    def test_alike_rows_and_rows_that_none_uses(self):
        self.assertIsNone(rows_fault([("p",), ("p",), ("p",)]))
        self.assertIsNone(rows_fault([("p",), ("q",), ("not", 0), ("not", 0), ("never",)]))

    def test_many(self):
        chance = random.Random(40)
        for k in range(50):
            self.assertIsNone(rows_fault(some_rows(chance, chance.choice((1, 2, 10, 60, 400)))))

    def test_the_list_of_no_things(self):
        self.assertEqual(rows_fault([]), 0)
        self.assertIs(type(rows_fault([])), int)

    def test_a_thing_that_is_no_row_at_each_place(self):
        chance = random.Random(41)
        for place in (0, 1, 2, 5, 30):
            for k, thing in enumerate(NEVER_ROWS):
                rows = some_rows(chance, 40)
                rows[place] = thing
                with self.subTest((place, k)):
                    self.assertEqual(rows_fault(rows), place)
                    self.assertEqual(rows_fault(rows[:place + 1]), place)
                    self.assertEqual(rows_fault(rows[:place] + [thing, None, thing]), place)

    def test_indexes_are_less_than_the_place(self):
        for place in (1, 2, 7, 399):
            ahead = [("p",)] * place
            for index in (0, place - 1):
                self.assertIsNone(rows_fault(ahead + [("not", index)]))
                self.assertIsNone(rows_fault(ahead + [("leads", index, 0)]))
                self.assertIsNone(rows_fault(ahead + [("leads", 0, index)]))
            for index in (-1, place, place + 1, SIXTY):
                self.assertEqual(rows_fault(ahead + [("not", index)]), place)
                self.assertEqual(rows_fault(ahead + [("leads", index, 0)]), place)
                self.assertEqual(rows_fault(ahead + [("leads", 0, index)]), place)
        self.assertEqual(rows_fault([("not", 0)]), 0)
        self.assertEqual(rows_fault([("more", 0, 0), ("p",)]), 0)
        self.assertEqual(rows_fault([("p",), ("not", 1), ("p",)]), 1)
        self.assertEqual(rows_fault([("p",), ("not", 2), ("p",)]), 1)

    def test_at_the_place_400(self):
        rows = some_rows(random.Random(42), 400)
        self.assertIsNone(rows_fault(rows))
        for thing in (("p",), ("not", 0), ("more", 1, 399), None, (), "p"):
            self.assertEqual(rows_fault(rows + [thing]), 400)
        self.assertEqual(rows_fault(rows[:399] + [None, ("p",)]), 399)
        self.assertEqual(rows_fault([None] * 401), 0)

    def test_the_list_stays(self):
        things = [("p",), ["not", 0], [], None]
        rows_fault(things)
        self.assertEqual(things, [("p",), ["not", 0], [], None])


class RowsOf(unittest.TestCase):
    def test_by_hand(self):
        self.assertEqual(rows_of(Never()), [("never",)])
        self.assertEqual(rows_of(Always()), [("always",)])
        self.assertEqual(rows_of(P), [("p",)])
        self.assertEqual(rows_of(Q), [("q",)])
        self.assertEqual(rows_of(Not(P)), [("p",), ("not", 0)])
        self.assertEqual(rows_of(Not(Not(Q))), [("q",), ("not", 0), ("not", 1)])
        self.assertEqual(rows_of(More(P, Q)), [("p",), ("q",), ("more", 0, 1)])
        self.assertEqual(rows_of(Less(Q, P)), [("q",), ("p",), ("less", 0, 1)])
        self.assertEqual(rows_of(Greater(Not(P), Q)), [("p",), ("not", 0), ("q",), ("greater", 1, 2)])
        self.assertEqual(rows_of(Lesser(Q, Not(P))), [("q",), ("p",), ("not", 1), ("lesser", 0, 2)])
        self.assertEqual(rows_of(Leads(More(P, Q), Less(Q, P))),
                         [("p",), ("q",), ("more", 0, 1), ("less", 1, 0), ("leads", 2, 3)])

    def test_what_stands_already(self):
        wanted = [("p",), ("more", 0, 0)]
        self.assertEqual(rows_of(More(P, P)), wanted)
        self.assertEqual(rows_of(More(P, Letter("p"))), wanted)
        wanted = [("p",), ("q",), ("leads", 0, 1), ("not", 2), ("less", 2, 3), ("greater", 4, 2)]
        shared = Leads(P, Q)
        self.assertEqual(rows_of(Greater(Less(shared, Not(shared)), shared)), wanted)
        alike = [Leads(Letter("p"), Letter("q")) for k in range(3)]
        self.assertEqual(rows_of(Greater(Less(alike[0], Not(alike[1])), alike[2])), wanted)
        self.assertEqual(rows_of(More(Never(), Never())), [("never",), ("more", 0, 0)])
        self.assertEqual(rows_of(More(Always(), Not(Always()))), [("always",), ("not", 0), ("more", 0, 1)])

    def test_unlike_folds_of_the_same(self):
        self.assertEqual(rows_of(More(Less(P, Q), Less(Q, P))),
                         [("p",), ("q",), ("less", 0, 1), ("less", 1, 0), ("more", 2, 3)])
        self.assertEqual(rows_of(More(More(P, Q), Greater(P, Q))),
                         [("p",), ("q",), ("more", 0, 1), ("greater", 0, 1), ("more", 2, 3)])

    def test_many(self):
        for plan in some_plans(300, range(1, 40)):
            with self.subTest(text_of(plan)):
                told = rows_of(made(plan))
                self.assertEqual(told, rows_by_plan(plan))
                self.assertIsNone(rows_fault(told))
                self.assertIs(type(told), list)
                self.assertEqual({type(row) for row in told}, {tuple})
                self.assertEqual(plan_of(told, len(told) - 1), plan)

    def test_sixty_parts(self):
        chance = random.Random(43)
        for k in range(20):
            plan = some_plan(chance, 60)
            self.assertEqual(rows_of(made(plan)), rows_by_plan(plan))

    def test_parts_that_are_one_object(self):
        saying = P
        wanted = [("p",)]
        for k in range(12):
            saying = More(saying, saying)
            wanted.append(("more", k, k))
        self.assertEqual(rows_of(saying), wanted)

    def test_a_new_list_each_time(self):
        for saying in (Never(), P, Leads(P, Not(Q))):
            first = rows_of(saying)
            wanted = list(first)
            first.append(None)
            first[0] = "changed"
            self.assertEqual(rows_of(saying), wanted)


class WorthOfRows(unittest.TestCase):
    def assert_worth(self, rows, point, wanted):
        kept = list(rows)
        told = worth_of_rows(rows, point)
        self.assertEqual(told, wanted, (rows, point))
        self.assertIs(type(told), int)
        self.assertEqual(rows, kept)

    def test_each_kind(self):
        for n, x, y in ((1, 0, 1), (7, 3, 5), (7, 5, 3), (SIXTY, 1, SIXTY)):
            self.assert_worth([("never",)], (n, x, y), 0)
            self.assert_worth([("always",)], (n, x, y), n)
            self.assert_worth([("p",)], (n, x, y), x)
            self.assert_worth([("q",)], (n, x, y), y)
            self.assert_worth([("p",), ("not", 0)], (n, x, y), n - x)
            self.assert_worth([("q",), ("not", 0)], (n, x, y), n - y)
            for word in FOLDS:
                self.assert_worth([("p",), ("q",), (word, 0, 1)], (n, x, y), worth_of((word, ("p",), ("q",)), n, x, y))
                self.assert_worth([("p",), ("q",), (word, 1, 0)], (n, x, y), worth_of((word, ("q",), ("p",)), n, x, y))
                self.assert_worth([("p",), ("q",), (word, 1, 1)], (n, x, y), worth_of((word, ("q",), ("q",)), n, x, y))

    def test_rows_of_sayings(self):
        chance = random.Random(44)
        for plan in some_plans(150, range(1, 40)):
            saying = made(plan)
            for point in some_points(chance, 5):
                self.assert_worth(rows_of(saying), point, worth_of(plan, *point))

    def test_alike_rows_and_rows_that_none_uses(self):
        self.assert_worth([("p",), ("p",), ("less", 0, 1)], (7, 5, 0), 3)
        self.assert_worth([("q",), ("p",), ("never",), ("not", 1)], (7, 5, 2), 2)
        self.assert_worth([("p",), ("not", 0), ("q",)], (7, 5, 2), 2)

    def test_many(self):
        chance = random.Random(45)
        for k in range(60):
            rows = some_rows(chance, chance.choice((1, 2, 12, 60, 400)))
            for point in some_points(chance, 4):
                self.assert_worth(rows, point, worths_row_by_row(rows, point)[-1])

    def test_shared_parts_nested_sixty_times(self):
        doubled = [("p",)] + [("more", k, k) for k in range(60)]
        self.assert_worth(doubled, (SIXTY, 3, 0), 3 * 2 ** 60)
        self.assert_worth(doubled, (2 ** 60, 1, 0), 2 ** 60)
        self.assert_worth(doubled, (2 ** 60 + 1, 1, 0), 2 ** 60)
        self.assert_worth(doubled, (2 ** 60 - 1, 1, 0), 2 ** 60 - 1)
        self.assert_worth(doubled, (LARGE, 0, 5), 0)
        left = [("p",), ("q",)] + [("leads", k + 1, k) for k in range(399 - 1)]
        self.assert_worth(left, (9, 4, 7), worths_row_by_row(left, (9, 4, 7))[-1])

    def test_no_rows_are_refused(self):
        rows = [("p",), ("q",), ("leads", 0, 1)]
        for k, thing in enumerate(NEVER_ROWS):
            for place in range(3):
                things = rows[:place] + [thing] + rows[place + 1:]
                with self.subTest((place, k)):
                    with self.assertRaises(NoRows) as caught:
                        worth_of_rows(things, (7, 5, 3))
                    self.assertEqual(caught.exception.at, place)
        for things, at in (([], 0), ([("p",)] * 401, 400), ([("p",), ("not", 1)], 1)):
            with self.assertRaises(NoRows) as caught:
                worth_of_rows(things, (7, 5, 3))
            self.assertEqual(caught.exception.at, at)
        self.assert_worth(rows, (7, 5, 3), 5)

    def test_no_points_are_refused(self):
        rows = [("never",)]
        for thing in ((0, 0, 0), (7, 8, 0), (7, 0, -1), (True, 0, 0), (1, True, 0), [7, 5, 3], (7, 5), None, "p", 7):
            with self.assertRaises(NoPoint):
                worth_of_rows(rows, thing)
        self.assert_worth(rows, (7, 5, 3), 0)

    def test_no_rows_ahead_of_no_point(self):
        for things in ([], [None], [("p",), ("not", 1)]):
            for thing in ((0, 0, 0), None, [7, 5, 3]):
                with self.assertRaises(NoRows):
                    worth_of_rows(things, thing)

    def test_refused_right_under_say_error(self):
        for kind in (NoRows, NoPoint):
            self.assertEqual(kind.__bases__, (SayError,))


if __name__ == "__main__":
    unittest.main()
