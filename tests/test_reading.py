"""Points [6] and [7], and the interface's part leansay/reading.py."""

import itertools
import random
import re
import unittest

from leansay.errors import NoText, SayError, TooMany
from leansay.reading import read
from leansay.sayings import Letter, Saying
from plans import FOLDS, made, some_plan, some_plans, text_of, words_of, worth_of

SIGNS = {"never": "X", "always": "X", "p": "X", "q": "X", "not": "N", "(": "(", ")": ")",
         "more": "F", "less": "F", "greater": "F", "lesser": "F", "leads": "F"}


# What can be drawn together to one saying is drawn together: X is a saying, N a not, F a fold's word.
def drawn_together(words):
    signs = "".join(SIGNS.get(word, "?") for word in words)
    while re.search(r"NX|\(XFX\)", signs):
        signs = re.sub(r"NX|\(XFX\)", "X", signs)
    return signs


def may_begin(words):
    return re.fullmatch(r"(N|\(XF|\()*X?", drawn_together(words)) is not None


# None where the words are a saying's.
def fault_of(words):
    if drawn_together(words) == "X":
        return None
    for at in range(len(words)):
        if not may_begin(words[:at + 1]):
            return at
    return len(words)


def kinds_of(saying):
    if isinstance(saying, Letter):
        return (saying.name,)
    return (type(saying).__name__.lower(),) + tuple(kinds_of(part) for part in saying.made_of())


class Read(unittest.TestCase):
    def assert_read(self, text, plan):
        for k in range(2):
            saying = read(text)
            self.assertIsInstance(saying, Saying)
            self.assertEqual(kinds_of(saying), plan)
            self.assertEqual(saying.told(), text)

    def test_each_kind(self):
        for word in ("never", "always", "p", "q"):
            self.assert_read(word, (word,))
            self.assert_read("not " + word, ("not", (word,)))
        for word in FOLDS:
            self.assert_read("( p " + word + " q )", (word, ("p",), ("q",)))
            self.assert_read("( always " + word + " never )", (word, ("always",), ("never",)))

    def test_which_fields(self):
        saying = read("( not p leads q )")
        self.assertEqual(saying.one.part.name, "p")
        self.assertEqual(saying.other.name, "q")

    def test_sayings_within_sayings(self):
        self.assert_read("( p leads not q )", ("leads", ("p",), ("not", ("q",))))
        self.assert_read("not ( p leads q )", ("not", ("leads", ("p",), ("q",))))
        self.assert_read("not not always", ("not", ("not", ("always",))))
        self.assert_read("( ( p less q ) more never )", ("more", ("less", ("p",), ("q",)), ("never",)))
        self.assert_read("( never more ( p less q ) )", ("more", ("never",), ("less", ("p",), ("q",))))
        self.assert_read("( ( p less q ) more ( q greater p ) )",
                         ("more", ("less", ("p",), ("q",)), ("greater", ("q",), ("p",))))

    def test_many(self):
        for plan in some_plans(400, range(1, 25)):
            self.assert_read(text_of(plan), plan)

    def test_worths_of_what_is_read(self):
        for plan in some_plans(60, range(1, 25)):
            self.assertEqual(read(text_of(plan)).out_of(9, 4, 7), worth_of(plan, 9, 4, 7))


class NoSayingsText(unittest.TestCase):
    def assert_fault(self, text, at):
        with self.assertRaises(NoText, msg=text) as caught:
            read(text)
        self.assertEqual(caught.exception.at, at, text)
        self.assertIs(type(caught.exception.at), int)

    def assert_as_the_words_are(self, words):
        at = fault_of(words)
        if at is not None:
            self.assert_fault(" ".join(words), at)
        else:
            self.assertEqual(read(" ".join(words)).told(), " ".join(words))

    def test_words_without_signs(self):
        self.assert_fault("", 0)
        self.assert_fault(" ", 0)
        self.assert_fault(" p", 0)
        self.assert_fault("p ", 1)
        self.assert_fault("not  p", 1)
        self.assert_fault("not ", 1)
        self.assert_fault("( p  more q )", 2)
        self.assert_fault("( p more  q )", 3)
        self.assert_fault("( p more q ) ", 5)
        self.assert_fault("( p more q  )", 4)

    def test_texts_that_end_too_early(self):
        self.assert_fault("not", 1)
        self.assert_fault("not not", 2)
        self.assert_fault("(", 1)
        self.assert_fault("( p", 2)
        self.assert_fault("( p more", 3)
        self.assert_fault("( p more q", 4)
        self.assert_fault("( p more not", 4)
        self.assert_fault("( ( p less q )", 6)

    def test_words_that_cannot_stand_there(self):
        self.assert_fault("r", 0)
        self.assert_fault("P", 0)
        self.assert_fault("Not p", 0)
        self.assert_fault("nevers", 0)
        self.assert_fault("neve", 0)
        self.assert_fault("pp", 0)
        self.assert_fault("(p more q )", 0)
        self.assert_fault("more", 0)
        self.assert_fault(")", 0)
        self.assert_fault("p q", 1)
        self.assert_fault("p more q", 1)
        self.assert_fault("not )", 1)
        self.assert_fault("not more", 1)
        self.assert_fault("( )", 1)
        self.assert_fault("( more q )", 1)
        self.assert_fault("( p q )", 2)
        self.assert_fault("( p )", 2)
        self.assert_fault("( p not q )", 2)
        self.assert_fault("( p and q )", 2)
        self.assert_fault("( p More q )", 2)
        self.assert_fault("( p more ) q", 3)
        self.assert_fault("( p more more q )", 3)
        self.assert_fault("( p more q q", 4)
        self.assert_fault("( p more q less p )", 4)
        self.assert_fault("( p more q ) )", 5)
        self.assert_fault("( p more q ) p", 5)
        self.assert_fault("not p not", 2)
        self.assert_fault("p\tq", 0)
        self.assert_fault("~", 0)

    def test_the_first_fault_is_told(self):
        self.assert_fault("( p more r ) )", 3)
        self.assert_fault("x y z", 0)
        self.assert_fault("( p p p p", 2)

    def test_all_short_ones(self):
        for count in range(1, 6):
            for words in itertools.product(("p", "not", "(", ")", "leads", "", "r"), repeat=count):
                self.assert_as_the_words_are(list(words))

    def test_texts_with_one_thing_amiss(self):
        chance = random.Random(20)
        strange = list(SIGNS) + ["", "r", "P", "pq", "nott", "Leads", "((", "1"]
        for plan in some_plans(120, range(1, 16)):
            words = words_of(plan)
            for k in range(6):
                at = chance.randrange(len(words) + 1)
                self.assert_as_the_words_are(words[:at] + [chance.choice(strange)] + words[at:])
                self.assert_as_the_words_are(words[:at] + [chance.choice(strange)] + words[at + 1:])
                if len(words) > 1:
                    self.assert_as_the_words_are(words[:at] + words[at + 1:])
                if at > 0:
                    self.assert_as_the_words_are(words[:at])

    def test_each_sign_changed(self):
        text = "( not p leads ( q lesser always ) )"
        for at in range(len(text)):
            for sign in (text[at].upper(), "x", " ", "", text[at] * 2):
                self.assert_as_the_words_are((text[:at] + sign + text[at + 1:]).split(" "))

    def test_many_within_one_another(self):
        for count in (12, 60):
            self.assert_fault("not " * count, count)
            self.assert_fault(("not " * count).strip(), count)
            self.assert_fault("( " * count, count)
            self.assert_fault(("( " * count).strip(), count)
            self.assert_fault("( " * count + "p", count + 1)
            self.assert_fault("( " * count + "p" + " more q )" * (count - 1), count + 1 + 3 * (count - 1))
            self.assert_fault("( " * count + "p" + " more q )" * (count + 1), 4 * count + 1)
            self.assert_fault("not " * count + "p )", count + 1)
        self.assertEqual(read("not " * 12 + "p").told(), "not " * 12 + "p")
        text = "( " * 11 + "p" + " more q )" * 11
        self.assertEqual(read(text).told(), text)

    def test_refused_right_under_say_error(self):
        with self.assertRaises(SayError):
            read("p p")


class Many(unittest.TestCase):
    def assert_too_many(self, text):
        with self.assertRaises(TooMany):
            read(text)

    def test_twenty_four_parts(self):
        chance = random.Random(21)
        for k in range(40):
            text = text_of(some_plan(chance, 24))
            self.assertEqual(read(text).told(), text)
            self.assert_too_many(text_of(some_plan(chance, 25)))

    def test_edges_by_hand(self):
        self.assertEqual(read("not " * 23 + "p").parts(), 24)
        self.assert_too_many("not " * 24 + "p")
        self.assert_too_many("not " * 60 + "never")
        self.assertEqual(read("not " + "( " * 11 + "p" + " less q )" * 11).parts(), 24)
        self.assert_too_many("( " * 12 + "p" + " less q )" * 12)
        self.assert_too_many("( p leads " * 60 + "q" + " )" * 60)

    def test_no_text_ahead_of_too_many(self):
        for text, at in (
            ("not " * 30 + "p p", 31),
            ("not " * 30 + "r", 30),
            ("( " * 30 + "p" + " more q )" * 29, 118),
            ("( " * 30 + "p" + " more q )" * 30 + " ", 121),
            ("( p more " * 30 + "q" + " )" * 31, 121),
        ):
            with self.subTest(text):
                with self.assertRaises(NoText) as caught:
                    read(text)
                self.assertEqual(caught.exception.at, at)

    def test_what_was_told_of_any_size(self):
        saying = made(("leads", ("p",), ("q",)))
        for k in range(12):
            saying = type(saying)(saying, saying)
        self.assert_too_many(saying.told())
        with self.assertRaises(NoText) as caught:
            read(saying.told() + " p")
        self.assertEqual(caught.exception.at, len(saying.told().split(" ")))
        deep = Letter("p")
        for k in range(3000):
            deep = type(saying)(deep, Letter("q"))
        self.assert_too_many(deep.told())


if __name__ == "__main__":
    unittest.main()
