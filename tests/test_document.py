"""The whole document once more, point by point: at least one example for each sentence that promises something."""

import inspect
import importlib
import itertools
import unittest
from fractions import Fraction

from leansay.backs import rows_of_line
from leansay.desk import Desk
from leansay.errors import (NoCall, NoCut, NoLetter, NoLine, NoName, NoNumber, NoPoint, NoRows, NoText, SayError,
                            TooMany)
from leansay.fractions import fraction, less, minus, plus, times, written
from leansay.hulls import cut, square, told_by
from leansay.lacks import alike, lack
from leansay.leasts import always, fewest_steps, least_worth
from leansay.lines import bends, height_at, line_made, stays
from leansay.lineworks import added, cut_off, greater_line, lesser_line, raised, turned
from leansay.meanings import line_of, line_of_rows
from leansay.points import is_point, least_on_steps, on_steps, worth
from leansay.reading import read
from leansay.rows import rows_fault, rows_of, worth_of_rows
from leansay.rules import rules_on
from leansay.sayings import Always, Fold, Greater, Leads, Less, Lesser, Letter, More, Never, Not, Saying, put_in
from leansay.straights import straight_rows
from leansay.trees import cutting, holds, holds_for_both, hulls_of
from plans import all_steps, area, does_hold, hull_fault, line_fault, tree_size

P = Letter("p")
Q = Letter("q")
ONE = (1, 1)
HALF = (1, 2)
LEAF = ("leaf",)
TENT = ((HALF, 2, 0), (ONE, -2, 2))
REFUSALS = (NoText, NoRows, NoLine, NoCall, NoName, NoNumber, TooMany, NoPoint, NoLetter, NoCut)
FOLDS = (More, Less, Greater, Lesser, Leads)
NINE_FOLDS = read("( p more " * 9 + "p" + " )" * 9)
INTERFACE = {
    "fractions": {"fraction": "top bottom", "plus": "one other", "minus": "one other", "times": "one other",
                  "less": "one other", "written": "one"},
    "sayings": {"put_in": "saying one other", "Letter": "name", "Not": "part", "Never": "", "Always": "",
                "More": "one other", "Less": "one other", "Greater": "one other", "Lesser": "one other",
                "Leads": "one other"},
    "reading": {"read": "text"},
    "points": {"is_point": "thing", "worth": "saying point", "on_steps": "saying n", "least_on_steps": "saying n"},
    "rows": {"rows_fault": "things", "rows_of": "saying", "worth_of_rows": "rows point"},
    "lines": {"line_made": "stretches", "height_at": "line x", "bends": "line", "stays": "line"},
    "lineworks": {"added": "one other", "turned": "line", "raised": "line by", "greater_line": "one other",
                  "lesser_line": "one other", "cut_off": "line"},
    "meanings": {"line_of": "saying", "line_of_rows": "rows"},
    "straights": {"straight_rows": "slope height"},
    "backs": {"rows_of_line": "line"},
    "hulls": {"square": "", "told_by": "rule point", "cut": "hull rule"},
    "rules": {"rules_on": "rows hull"},
    "trees": {"hulls_of": "tree", "cutting": "saying", "holds": "saying tree least",
              "holds_for_both": "one other tree"},
    "leasts": {"least_worth": "saying", "always": "saying", "fewest_steps": "saying"},
    "lacks": {"lack": "one other", "alike": "one other"},
    "desk": {"Desk": ""},
    "errors": {"NoText": "at", "NoRows": "at", "NoLine": "word at", "NoCall": "line", "NoName": "name"},
}


def nots(count, saying=P):
    for k in range(count):
        saying = Not(saying)
    return saying


class Document(unittest.TestCase):
    def assert_refused(self, kind, fields, asked, *handed):
        with self.assertRaises(kind) as caught:
            asked(*handed)
        self.assertIs(type(caught.exception), kind)
        self.assertEqual({field: getattr(caught.exception, field) for field in fields}, fields)

    def assert_own_list(self, asked, *handed):
        first = asked(*handed)
        wanted = str(first)
        waiting = [first]
        while waiting:
            thing = waiting.pop()
            waiting.extend(part for part in thing if isinstance(part, (list, tuple)))
            if isinstance(thing, list):
                thing.append("changed")
                thing[0] = "changed"
        self.assertNotEqual(str(first), wanted)
        self.assertEqual(str(asked(*handed)), wanted)


class TheWhole(Document):
    def test_01_what_it_is_about(self):
        self.assertEqual(worth(P, (10, 7, 6)), 7)
        self.assertEqual([worth(saying, (10, 7, 6)) for saying in (Not(P), More(P, Q), Less(P, Q), Greater(P, Q),
                                                                   Lesser(P, Q), Leads(P, Q), Leads(Q, P))],
                         [3, 10, 3, 7, 6, 9, 10])
        tent = read("( ( p more p ) lesser ( not p more not p ) )")
        self.assertEqual(line_of(tent), TENT)
        self.assertEqual(line_of_rows(rows_of_line(TENT)), TENT)
        self.assertEqual(least_worth(read("( p greater not p )"))[0], HALF)
        self.assertEqual(always(read("( p leads ( q leads p ) )"))[0], "always")
        self.assertEqual(lack(P, Less(P, P))[0], HALF)
        self.assertEqual(alike(More(P, Q), More(Q, P))[0], "alike")
        third = least_worth(read("( p greater ( not p less not p ) )"))[0]
        self.assertEqual((third, [type(number) for number in third]), ((1, 3), [int, int]))

    def test_02_truths_are_no_whole_numbers(self):
        for thing in ((True, 0, 0), (1, True, 0), (1, 0, False)):
            self.assertIs(is_point(thing), False)
            self.assert_refused(NoPoint, {}, worth, P, thing)
        self.assertEqual(rows_fault([("p",), ("not", False)]), 1)
        for told in (worth(P, (1, 1, 0)), P.parts(), P.folds(), rows_fault([]), told_by((0, 0, 1), (1, 0, 0))):
            self.assertIs(type(told), int)
        for told in (is_point(None), less(HALF, ONE), stays(TENT), holds(P, LEAF, (0, 1)), holds_for_both(P, P, LEAF)):
            self.assertIs(type(told), bool)

    def test_02_nothing_handed_in_is_changed(self):
        rows, hull, stretches = rows_of(Leads(P, Not(Q))), square(), [(HALF, 1, 0), (ONE, 1, 0)]
        kept = (list(rows), list(hull), list(stretches))
        for asked, handed in ((rows_fault, (rows,)), (worth_of_rows, (rows, (7, 5, 3))), (rules_on, (rows, hull)),
                              (cut, (hull, (1, 1, -1))), (line_made, (stretches,))):
            asked(*handed)
        self.assertEqual((rows, hull, stretches), kept)
        saying = Leads(P, Not(Q))
        for asked in (rows_of, cutting, least_worth, always, fewest_steps):
            asked(saying)
        put_in(saying, saying, saying)
        self.assertEqual(saying.told(), "( p leads not q )")

    def test_02_what_is_changed_after_it_was_handed_in(self):
        stretches = [(HALF, 2, 0), (ONE, -2, 2)]
        line = line_made(stretches)
        rows, hull = [("p",), ("not", 0)], square()
        told = rules_on(rows, hull)
        parts = cut(hull, (1, 1, -1))
        for things in (stretches, rows, hull):
            things.clear()
        self.assertEqual(line, TENT)
        self.assertEqual(told, ("rules", [(1, 0, 0), (-1, 0, 1)]))
        self.assertEqual(parts, cut(square(), (1, 1, -1)))

    def test_02_every_told_list_is_the_askers_own(self):
        tree = ("cut", (1, 1, -1), LEAF, ("cut", (1, -1, 0), LEAF, LEAF))
        for asked, handed in ((Leads(P, Q).letters, ()), (on_steps, (P, 3)), (rows_of, (Leads(P, Q),)),
                              (bends, (TENT,)), (straight_rows, (3, -1)), (rows_of_line, (TENT,)), (square, ()),
                              (hulls_of, (tree,)), (cut, (square(), (1, 1, -1))), (hulls_of, (LEAF,)),
                              (rules_on, ([("p",), ("not", 0)], square()))):
            self.assert_own_list(asked, *handed)

    def test_02_the_same_saying_may_be_a_part_of_many(self):
        shared = Leads(P, Q)
        first, second = Not(shared), More(shared, shared)
        self.assertEqual((first.told(), second.told(), shared.told()),
                         ("not ( p leads q )", "( ( p leads q ) more ( p leads q ) )", "( p leads q )"))

    def test_02_nothing_hangs_on_chance(self):
        saying = read("( ( p more q ) greater ( not p less not q ) )")
        for asked in (cutting, least_worth, always, fewest_steps, rows_of):
            self.assertEqual(asked(saying), asked(saying))

    def test_02_what_was_told_may_be_handed_in_again(self):
        great = times((10 ** 60 - 1, 10 ** 60 - 2), (10 ** 60 - 3, 10 ** 60 - 5))
        self.assertEqual(minus(plus(great, great), great), great)
        saying = P
        for k in range(450):
            saying = put_in(Not(P), saying, P)
        self.assertEqual((saying.parts(), least_worth(saying)[0], line_of(saying)), (451, (0, 1), ((ONE, 1, 0),)))

    def test_02_each_refusal(self):
        for kind in REFUSALS:
            self.assertEqual(kind.__bases__, (SayError,))
        self.assertEqual(SayError.__bases__, (ValueError,))
        desk = Desk()
        desk.tell("say a p")
        for line in ("say a (", "say b p ", "drop b", "put a a b a", "tell", "worth a 0 0 0"):
            with self.assertRaises(SayError):
                desk.tell(line)
        self.assertEqual((desk.tell("names"), desk.tell("show a")), ("a", "p"))

    def test_03_lines_and_sayings(self):
        saying = read("( ( p more p ) more ( p less p ) )")
        line = line_of(saying)
        for n in range(1, 9):
            for x in range(n + 1):
                self.assertEqual(height_at(line, fraction(x, n)), fraction(worth(saying, (n, x, 0)), n))
        for line in (TENT, ((ONE, 0, 0),), (((1, 4), 4, 0), (HALF, -4, 2), (ONE, 2, -1))):
            rows = rows_of_line(line)
            self.assertEqual((line_of_rows(rows), rows_fault(rows)), (line, None))

    def test_03_least_worth_always_steps(self):
        saying = read("( ( ( p more p ) more p ) greater not p )")
        least, point, tree = least_worth(saying)
        self.assertEqual((least, worth(saying, point) * 4), ((3, 4), 3 * point[0]))
        for hull in hulls_of(tree):
            self.assertEqual(rules_on(rows_of(saying), hull)[0], "rules")
            self.assertTrue(all(worth(saying, corner) * 4 >= 3 * corner[0] for corner in hull))
        self.assertEqual(always(saying)[0], "less")
        n, point = fewest_steps(saying)
        self.assertEqual((n, worth(saying, point) < n), (4, True))
        for fewer in range(1, n):
            self.assertTrue(all(worth(saying, step) == fewer for step in all_steps(fewer)))
        told = always(read("( ( p leads q ) greater ( q leads p ) )"))
        self.assertEqual(told[0], "always")
        self.assertTrue(does_hold(("greater", ("leads", ("p",), ("q",)), ("leads", ("q",), ("p",))), told[1], ONE))

    def test_03_lacks_and_likeness(self):
        found, point, tree = lack(More(P, P), P)
        self.assertEqual((found, worth(Leads(More(P, P), P), point) * 2), (HALF, point[0]))
        self.assertIs(holds(Leads(More(P, P), P), tree, HALF), True)
        one, other = Greater(P, Q), read("( ( p leads q ) leads q )")
        told = alike(one, other)
        self.assertEqual(told[0], "alike")
        rows = (rows_of(one), rows_of(other))
        for hull in hulls_of(told[1]):
            self.assertEqual(rules_on(rows[0], hull)[1][-1], rules_on(rows[1], hull)[1][-1])
        word, point = alike(More(P, Q), Greater(P, Q))
        self.assertEqual(word, "unlike")
        self.assertNotEqual(worth(More(P, Q), point), worth(Greater(P, Q), point))


class Stages1And2(Document):
    def test_04_fractions(self):
        self.assertEqual(fraction(0, 7), (0, 1))
        self.assertEqual(fraction(6, -4), (-3, 2))
        self.assertEqual((fraction(-6, -4), fraction(6, 3)), ((3, 2), (2, 1)))
        self.assert_refused(NoNumber, {}, fraction, 6, 0)
        self.assertEqual((plus((1, 6), (1, 3)), minus((1, 6), (1, 3)), times((2, 3), (3, 4))), (HALF, (-1, 6), HALF))
        self.assertEqual((less((1, 3), HALF), less(HALF, (1, 3)), less(HALF, HALF)), (True, False, False))
        self.assertEqual((written((-3, 2)), written((7, 1)), written((0, 1))), ("-3/2", "7", "0"))

    def test_05_sayings(self):
        for saying in (Never(), Always(), P, Q, Not(P)) + tuple(kind(P, Q) for kind in FOLDS):
            self.assertIsInstance(saying, Saying)
            self.assertEqual(isinstance(saying, Fold), saying.folds() == 1)
        self.assertEqual((P.name, Not(Q).part.name, More(P, Q).one.name, More(P, Q).other.name), ("p", "q", "p", "q"))
        shared = More(P, Q)
        self.assertEqual(Less(shared, Not(shared)).parts(), 8)
        self.assertEqual(nots(59).parts(), 60)

    def test_06_texts(self):
        self.assertEqual([saying.told() for saying in (Never(), Always(), P, Q, Not(P))],
                         ["never", "always", "p", "q", "not p"])
        self.assertEqual([kind(P, Q).told() for kind in FOLDS],
                         ["( p " + word + " q )" for word in ("more", "less", "greater", "lesser", "leads")])
        self.assertEqual(Leads(P, Not(Q)).told(), "( p leads not q )")

    def test_07_reading(self):
        self.assertEqual(read("( p leads not q )").told(), "( p leads not q )")
        for text, at in (("", 0), (" p", 0), ("p ", 1), ("( p  more q )", 2), ("r", 0), ("p q", 1), ("( p more q", 4),
                         ("not", 1), ("( p more ) q", 3)):
            self.assert_refused(NoText, {"at": at}, read, text)
        self.assertEqual(read("not " * 23 + "p").parts(), 24)
        self.assert_refused(TooMany, {}, read, "not " * 24 + "p")
        self.assert_refused(NoText, {"at": 25}, read, "not " * 24 + "p p")
        self.assert_refused(TooMany, {}, read, "not " * 60 + "p")

    def test_08_letters_parts_folds_put(self):
        self.assertEqual([saying.letters() for saying in (Never(), Not(P), More(Q, Q), More(Q, P))],
                         [[], ["p"], ["q"], ["p", "q"]])
        self.assertEqual((Leads(P, Not(Q)).parts(), Leads(P, Not(Q)).folds()), (4, 1))
        saying, one, other = Leads(P, Not(Q)), More(P, Q), Less(P, Q)
        put = put_in(saying, one, other)
        self.assertEqual(put.told(), "( ( p more q ) leads not ( p less q ) )")
        for point in all_steps(5):
            self.assertEqual(worth(put, point), worth(saying, (5, worth(one, point), worth(other, point))))

    def test_09_points(self):
        for thing in ((1, 0, 0), (1, 1, 1), (7, 5, 3), (10 ** 60 - 1, 0, 10 ** 60 - 1)):
            self.assertIs(is_point(thing), True)
        for thing in ((0, 0, 0), (7, 8, 0), (7, 0, 8), (7, -1, 0), (7, 0, -1), [7, 5, 3], (7, 5), None, "7",
                      (7, 5, "3")):
            self.assertIs(is_point(thing), False)
            self.assert_refused(NoPoint, {}, worth, P, thing)
            self.assert_refused(NoPoint, {}, worth_of_rows, [("p",)], thing)

    def test_10_worths(self):
        for n, x, y in all_steps(4) + [(9, 4, 7)]:
            wanted = (0, n, x, y, n - x, min(x + y, n), max(x + y - n, 0), max(x, y), min(x, y), min(n - x + y, n))
            told = [saying.out_of(n, x, y) for saying in (Never(), Always(), P, Q, Not(P)) + tuple(
                kind(P, Q) for kind in FOLDS)]
            self.assertEqual(tuple(told), wanted)
            for k in (2, 10 ** 20):
                self.assertEqual(worth(Leads(P, Q), (k * n, k * x, k * y)), k * worth(Leads(P, Q), (n, x, y)))

    def test_11_steps(self):
        self.assertEqual(on_steps(Leads(P, Q), 2), [[2, 2, 2], [1, 2, 2], [0, 1, 2]])
        self.assertEqual(least_on_steps(Leads(P, Q), 2), (0, (2, 2, 0)))
        self.assertEqual(least_on_steps(Always(), 40), (40, (40, 0, 0)))
        self.assertEqual([len(row) for row in on_steps(P, 40)], [41] * 41)

    def test_12_rows(self):
        self.assertIsNone(rows_fault([("never",), ("always",), ("p",), ("q",), ("not", 3)]))
        for word in ("more", "less", "greater", "lesser", "leads"):
            self.assertIsNone(rows_fault([("p",), (word, 0, 0)]))
            self.assertEqual(rows_fault([("p",), (word, 0, 1)]), 1)
        self.assertIsNone(rows_fault([("p",)] * 400))
        doubled = [("p",)] + [("more", k, k) for k in range(60)]
        self.assertEqual(worth_of_rows(doubled, (2 ** 61, 1, 0)), 2 ** 60)
        self.assertEqual(worth_of_rows([("p",), ("p",), ("q",), ("more", 0, 1)], (7, 2, 5)), 4)

    def test_13_rows_amiss_and_rows_of_sayings(self):
        for things, at in (([], 0), ([None], 0), ([("p",), ("not", 1)], 1), ([("p",)] * 401, 400)):
            self.assertEqual(rows_fault(things), at)
            self.assert_refused(NoRows, {"at": at}, worth_of_rows, things, (7, 5, 3))
            self.assert_refused(NoRows, {"at": at}, worth_of_rows, things, None)
            self.assert_refused(NoRows, {"at": at}, line_of_rows, things)
            self.assert_refused(NoRows, {"at": at}, rules_on, things, square())
        self.assertEqual(rows_of(Leads(More(P, Q), Less(Q, P))),
                         [("p",), ("q",), ("more", 0, 1), ("less", 1, 0), ("leads", 2, 3)])
        self.assertEqual(rows_of(More(Not(P), Not(P))), [("p",), ("not", 0), ("more", 1, 1)])
        saying = Leads(More(P, Q), Less(Q, P))
        for point in all_steps(4):
            self.assertEqual(worth_of_rows(rows_of(saying), point), worth(saying, point))


class Stages3To6(Document):
    def test_14_and_15_lines(self):
        self.assertEqual(line_made([((1, 4), 2, 0), (HALF, 2, 0), (ONE, -2, 2)]), TENT)
        for stretches, word, at in (([], "count", 0), ([(ONE, 0, 0)] * 61, "count", 61), ([((0, 1), 0, 0)], "end", 0),
                                    ([(HALF, 0, 0), (HALF, 0, 0)], "end", 1), ([((3, 2), 0, 0)], "end", 0),
                                    ([(HALF, 0, 0)], "short", 0), ([(HALF, 1, 0), (ONE, 1, 1)], "jump", 1),
                                    ([((1, 4), 1, 0), (HALF, 5, 5), ((1, 3), 0, 0)], "end", 2)):
            self.assert_refused(NoLine, {"word": word, "at": at}, line_made, stretches)

    def test_16_heights_and_bends(self):
        self.assertEqual([height_at(TENT, x) for x in ((0, 1), (1, 4), HALF, (2, 3), ONE)],
                         [(0, 1), HALF, ONE, (2, 3), (0, 1)])
        self.assert_refused(NoPoint, {}, height_at, TENT, (-1, 9))
        self.assert_refused(NoPoint, {}, height_at, TENT, (10, 9))
        self.assertEqual(bends(TENT), [((0, 1), (0, 1)), (HALF, ONE), (ONE, (0, 1))])

    def test_17_lines_of_lines(self):
        rising, falling = ((ONE, 1, 0),), ((ONE, -1, 1),)
        self.assertEqual(added(rising, TENT), ((HALF, 3, 0), (ONE, -1, 2)))
        self.assertEqual(turned(TENT), ((HALF, -2, 0), (ONE, 2, -2)))
        self.assertEqual(raised(rising, -3), ((ONE, 1, -3),))
        self.assertEqual(greater_line(rising, falling), ((HALF, -1, 1), (ONE, 1, 0)))
        self.assertEqual(lesser_line(rising, falling), ((HALF, 1, 0), (ONE, -1, 1)))
        self.assertEqual(cut_off(((ONE, 4, -1),)), (((1, 4), 0, 0), (HALF, 4, -1), (ONE, 0, 1)))
        self.assertEqual([stays(line) for line in (TENT, turned(TENT), raised(rising, 1))], [True, False, False])

    def test_18_and_19_lines_of_sayings_and_rows(self):
        saying = read("( ( p leads not p ) greater p )")
        line = line_of(saying)
        self.assertEqual((line_fault(line), stays(line), line_of_rows(rows_of(saying))), (None, True, line))
        for x in range(13):
            self.assertEqual(height_at(line, fraction(x, 12)), fraction(worth(saying, (12, x, 0)), 12))
        self.assertIn(height_at(line, (0, 1)), ((0, 1), ONE))
        self.assertIn(height_at(line, ONE), ((0, 1), ONE))
        self.assert_refused(NoLetter, {}, line_of, Lesser(Never(), Q))
        self.assert_refused(NoLetter, {}, line_of_rows, [("q",), ("p",)])
        self.assert_refused(NoRows, {"at": 1}, line_of_rows, [("q",), ("not", 1)])

    def test_20_straight_rows(self):
        for slope, height in itertools.product((-12, -5, -1, 0, 1, 5, 12), (-13, -4, 0, 1, 6, 10 ** 19)):
            rows = straight_rows(slope, height)
            self.assertEqual((rows_fault(rows), ("q",) in rows), (None, False))
            self.assertEqual(line_of_rows(rows), cut_off(((ONE, slope, height),)))
        for slope in (-13, 13):
            self.assert_refused(NoLine, {"word": "steep", "at": 0}, straight_rows, slope, 0)

    def test_21_rows_of_lines(self):
        for line in (TENT, (((1, 4), -4, 1), ((3, 4), 0, 0), (ONE, 4, -3)), line_of(read("( p greater not p )"))):
            rows = rows_of_line(line)
            self.assertEqual((rows_fault(rows), ("q",) in rows, line_of_rows(rows)), (None, False, line))
        seven = (((1, 8), 4, 0), ((1, 4), -4, 1), ((3, 8), 4, -1), (HALF, -4, 2), ((5, 8), 4, -2), ((3, 4), -4, 3),
                 (ONE, 0, 0))
        for line, word, at in ((((HALF, 3, 0), (ONE, -3, 3)), "out", 0), (seven, "many", 7),
                               ((((1, 5), 0, 0), ((2, 5), 5, -1), (ONE, 0, 1)), "steep", 1),
                               (seven[:6] + ((ONE, 8, -6),), "out", 6)):
            self.assertIsNone(line_fault(line))
            self.assert_refused(NoLine, {"word": word, "at": at}, rows_of_line, line)


class Stages7To10(Document):
    def test_22_and_23_rules_and_hulls(self):
        self.assertEqual(told_by((2, -3, 5), (7, 5, 3)), 36)
        self.assertEqual(square(), [(1, 0, 0), (1, 1, 0), (1, 1, 1), (1, 0, 1)])
        for part in cut(square(), (3, 2, -1)) + cut(cut(square(), (1, 1, -1))[1], (4, -2, -1)):
            self.assertIsNone(hull_fault(part))

    def test_24_cuts(self):
        self.assertEqual(cut(square(), (2, 4, -3)),
                         ([(1, 0, 0), (1, 1, 0), (4, 4, 1), (4, 0, 3)], [(4, 4, 1), (1, 1, 1), (1, 0, 1), (4, 0, 3)]))
        self.assertEqual(cut(square(), (1, 1, -1)),
                         ([(1, 0, 0), (1, 1, 0), (1, 0, 1)], [(1, 1, 0), (1, 1, 1), (1, 0, 1)]))
        low, high = cut(square(), (2, 4, -3))
        self.assertEqual(area(low) + area(high), 1)
        for rule in ((1, 1, 0), (1, 0, 0), (0, 0, 1), (0, 0, 0), (1, 1, -2), (-1, 0, 0), (1, 0, 1)):
            self.assert_refused(NoCut, {}, cut, square(), rule)

    def test_25_rules_of_rows(self):
        leaves = [("never",), ("always",), ("p",), ("q",), ("not", 2)]
        rules = [(0, 0, 0), (0, 0, 1), (1, 0, 0), (0, 1, 0), (-1, 0, 1)]
        self.assertEqual(rules_on(leaves, square()), ("rules", rules))
        for fold, test, low, high in ((("more", 2, 3), (1, 1, -1), (1, 1, 0), (0, 0, 1)),
                                      (("less", 2, 3), (1, 1, -1), (0, 0, 0), (1, 1, -1)),
                                      (("greater", 2, 3), (1, -1, 0), (0, 1, 0), (1, 0, 0)),
                                      (("lesser", 2, 3), (1, -1, 0), (1, 0, 0), (0, 1, 0)),
                                      (("leads", 2, 3), (-1, 1, 0), (-1, 1, 1), (0, 0, 1))):
            rows = leaves + [fold]
            self.assertEqual(rules_on(rows, square()), ("mixed", 5, test))
            for part, rule in zip(cut(square(), test), (low, high)):
                self.assertEqual(rules_on(rows, part), ("rules", rules + [rule]))
                for n, x, y in part:
                    self.assertEqual(told_by(rule, (n, x, y)), worth_of_rows(rows, (n, x, y)))
        self.assertEqual(rules_on([("p",), ("not", 0), ("more", 0, 1), ("less", 0, 1)], square())[1][2:],
                         [(0, 0, 1), (0, 0, 0)])

    def test_26_trees(self):
        self.assertEqual(hulls_of(LEAF), [square()])
        tree = ("cut", (1, 1, -1), ("cut", (1, -1, 0), LEAF, LEAF), LEAF)
        low, high = cut(square(), (1, 1, -1))
        self.assertEqual(hulls_of(tree), list(cut(low, (1, -1, 0))) + [high])
        for amiss in (("cut", (0, 0, 1), LEAF, LEAF), ("cut", (1, 1, -1), LEAF, ("cut", (2, 2, -1), LEAF, LEAF))):
            self.assert_refused(NoCut, {}, hulls_of, amiss)

    def test_26_and_27_told_trees(self):
        seven = read("( ( ( p more p ) less ( q more q ) ) greater ( ( p leads q ) lesser ( q less p ) ) )")
        self.assertEqual(seven.folds(), 7)
        for saying in (P, seven, Leads(seven, P)):
            tree = cutting(saying)
            cuts, depth, greatest = tree_size(tree)
            self.assertTrue(cuts <= 400 and depth <= 40 and greatest < 10 ** 9)
            for hull in hulls_of(tree):
                self.assertEqual(rules_on(rows_of(saying), hull)[0], "rules")
        for asked, handed in ((cutting, ()), (holds, (LEAF, ONE)), (holds_for_both, (P, LEAF)), (least_worth, ()),
                              (always, ()), (fewest_steps, ()), (lack, (P,)), (alike, (P,))):
            self.assert_refused(TooMany, {}, asked, NINE_FOLDS, *handed)

    def test_28_holds(self):
        saying, tree = read("( p greater not p )"), ("cut", (2, 0, -1), LEAF, LEAF)
        self.assertIs(holds(saying, tree, HALF), True)
        for other, least in ((tree, (501, 1000)), (LEAF, HALF), (("cut", (2, 0, 1), LEAF, LEAF), HALF)):
            self.assertIs(holds(saying, other, least), False)
        sums = ("cut", (1, 1, -1), LEAF, LEAF)
        self.assertIs(holds_for_both(More(P, Q), More(Q, P), sums), True)
        self.assertIs(holds_for_both(More(P, Q), More(Q, P), LEAF), False)
        self.assertIs(holds_for_both(More(P, Q), Less(P, Q), sums), False)
        self.assertIs(holds_for_both(P, P, ("cut", (0, 0, 1), LEAF, LEAF)), False)

    def test_29_to_31_leasts(self):
        saying = read("( ( p more p ) greater ( ( not p less not p ) less not p ) )")
        least, point, tree = least_worth(saying)
        self.assertEqual((least, fraction(worth(saying, point), point[0])), ((2, 5), (2, 5)))
        self.assertIs(holds(saying, tree, least), True)
        word, point = always(saying)
        self.assertEqual((word, worth(saying, point) < point[0]), ("less", True))
        n, point = fewest_steps(saying)
        self.assertEqual((n, point[0], worth(saying, point) < n), (3, 3, True))
        axiom = read("( p leads ( q leads p ) )")
        self.assertEqual((always(axiom)[0], holds(axiom, always(axiom)[1], ONE)), ("always", True))
        self.assertIsNone(fewest_steps(axiom))

    def test_32_lacks(self):
        one, other = read("( ( p more p ) lesser not p )"), Never()
        found, point, tree = lack(one, other)
        self.assertEqual(found, (2, 3))
        self.assertEqual(fraction(worth(Leads(one, other), point), point[0]), (1, 3))
        self.assertIs(holds(Leads(one, other), tree, (1, 3)), True)
        self.assertEqual(lack(other, one)[0], (0, 1))
        seven = NINE_FOLDS.other.other
        self.assertEqual((seven.folds(), lack(seven, P)[0]), (7, (7, 8)))
        self.assert_refused(TooMany, {}, lack, NINE_FOLDS.other, P)

    def test_33_likeness(self):
        word, tree = alike(Leads(P, Q), Leads(Not(Q), Not(P)))
        self.assertEqual((word, holds_for_both(Leads(P, Q), Leads(Not(Q), Not(P)), tree)), ("alike", True))
        word, point = alike(Leads(P, Q), Leads(Q, P))
        self.assertEqual(word, "unlike")
        self.assertNotEqual(worth(Leads(P, Q), point), worth(Leads(Q, P), point))
        self.assertEqual(alike(NINE_FOLDS.other, P)[0], "unlike")
        self.assert_refused(TooMany, {}, alike, NINE_FOLDS.other, Leads(P, P))

    def test_34_a_desk(self):
        desk = Desk()
        for line, answer in (
            ("names", "none"), ("say b ( p more p )", "3"), ("say a ( p leads not q )", "4"), ("names", "a b"),
            ("show a", "( p leads not q )"), ("put c a b b", "8"),
            ("show c", "( ( p more p ) leads not ( p more p ) )"),
            ("worth a 10 7 6", "7"), ("rows c", "4"), ("line b", "1/2 2 0; 1 0 1"), ("least a", "0"), ("say d p", "1"),
            ("lack b d", "1/2"), ("always a", "no"), ("alike b d", "no"), ("alike b b", "yes"), ("steps a", "1"),
            ("say d ( p leads p )", "3"), ("always d", "yes"), ("steps d", "none"), ("drop a", "dropped"),
            ("names", "b c d"), ("worth d 99999999999999999999 3 4", "99999999999999999999"),
        ):
            self.assertEqual(desk.tell(line), answer, line)

    def test_35_what_a_desk_refuses(self):
        desk = Desk()
        for line in ("say a p", "say b q", "say c " + NINE_FOLDS.told()):
            desk.tell(line)
        for line in ("", "shew a", "show", "show a b", "show A", "show  a", " show a", "show a ", "worth a 1 0",
                     "worth a 01 0 0", "worth a 100000000000000000000 0 0", "say a", "say A p", "put D a a a"):
            self.assert_refused(NoCall, {"line": line}, desk.tell, line)
        for line, name in (("show d", "d"), ("put d a e f", "e"), ("lack e d", "e"), ("worth d 0 0 0", "d")):
            self.assert_refused(NoName, {"name": name}, desk.tell, line)
        for line, at in (("say d ", 0), ("say d  p", 0), ("say a ( p q )", 2)):
            self.assert_refused(NoText, {"at": at}, desk.tell, line)
        for line, kind in (("say d " + "not " * 24 + "p", TooMany), ("put d c c a", TooMany),
                           ("worth a 1 2 0", NoPoint), ("line b", NoLetter), ("least c", TooMany),
                           ("lack c a", TooMany), ("alike a c", TooMany), ("always c", TooMany), ("steps c", TooMany)):
            self.assert_refused(kind, {}, desk.tell, line)
        self.assertEqual(desk.tell("names"), "a b c")


class Interface(unittest.TestCase):
    def test_each_name_with_its_arguments(self):
        for module, names in INTERFACE.items():
            for name, arguments in names.items():
                thing = getattr(importlib.import_module("leansay." + module), name)
                with self.subTest((module, name)):
                    told = [] if name in ("Never", "Always") else list(inspect.signature(thing).parameters)
                    self.assertEqual(" ".join(told), arguments)

    def test_classes(self):
        for kind in (Never, Always, Letter, Not, Fold):
            self.assertEqual(kind.__bases__, (Saying,))
        for kind in FOLDS:
            self.assertEqual(kind.__bases__, (Fold,))
        for method, arguments in (("told", ()), ("out_of", (7, 5, 3)), ("parts", ()), ("folds", ()), ("letters", ())):
            self.assertIsNotNone(getattr(Leads(P, Q), method)(*arguments))
        self.assertEqual(list(inspect.signature(Desk().tell).parameters), ["line"])
        self.assertEqual(list(inspect.signature(P.out_of).parameters), ["n", "x", "y"])
        for kind in (NoNumber, TooMany, NoPoint, NoLetter, NoCut):
            self.assertEqual(str(kind("words")), "words")

    def test_kinds(self):
        self.assertEqual(Fraction(*fraction(6, -4)), Fraction(-3, 2))
        for told, kind in ((read("p"), Letter), (rows_of(P), list), (line_of(P), tuple), (straight_rows(1, 0), list),
                           (rows_of_line(TENT), list), (square(), list), (cut(square(), (1, 1, -1)), tuple),
                           (rules_on([("p",)], square()), tuple), (hulls_of(LEAF), list), (cutting(P), tuple),
                           (least_worth(P), tuple), (always(P), tuple), (fewest_steps(P), tuple), (lack(P, P), tuple),
                           (alike(P, P), tuple), (Desk().tell("names"), str)):
            self.assertIs(type(told), kind)


if __name__ == "__main__":
    unittest.main()
