"""Points [2], [34] and [35], and the interface's part leansay/desk.py."""

import random
import unittest

from leansay.desk import Desk
from leansay.errors import NoCall, NoLetter, NoName, NoPoint, NoText, SayError, TooMany
from plans import LEAVES, folds_in, some_folded_plan, some_plans, text_of, worth_of

TWENTY = 10 ** 20 - 1
NEVER_NAMES = ("", "abcdefghi", "P", "Ab", "aB", "a1", "1", "a_b", "a-b", "a.b", "(", "~", "'a'")
NEVER_NUMBERS = ("", "00", "01", "007", "-1", "+1", "-0", "1.0", "1/2", "1_0", "0x1", "a", "one", "1" + "0" * 20,
                 "9" * 21, "0" * 20, "1e3", "x", "*")
# All lines that may be told but say, put, names and drop, each with the names a and b.
ASKS = ("show a", "worth a 7 5 3", "rows a", "line a", "least a", "lack a b", "always a", "alike a b", "steps a")


def desk_with(*lines):
    desk = Desk()
    for line in lines:
        desk.tell(line)
    return desk


def nested(word, count):
    text = "p"
    for k in range(count):
        text = "( p " + word + " " + text + " )"
    return text


class DeskCase(unittest.TestCase):
    def assert_tells(self, desk, *lines):
        for line, wanted in lines:
            told = desk.tell(line)
            self.assertEqual(told, wanted, line)
            self.assertIs(type(told), str)

    # What the desk answers to all that is asked of what it keeps.
    def all_it_keeps(self, desk):
        names = desk.tell("names")
        return [names] + [desk.tell("show " + name) for name in ([] if names == "none" else names.split(" "))]

    def assert_refused(self, desk, line, kind, field=None, value=None):
        kept = self.all_it_keeps(desk)
        with self.assertRaises(kind) as caught:
            desk.tell(line)
        self.assertIs(type(caught.exception), kind, line)
        self.assertEqual(kind.__bases__, (SayError,))
        if field is not None:
            self.assertEqual(getattr(caught.exception, field), value, line)
        self.assertEqual(self.all_it_keeps(desk), kept, line)

    def assert_no_call(self, desk, line):
        self.assert_refused(desk, line, NoCall, "line", line)


class Answers(DeskCase):
    def test_say_and_show(self):
        desk = Desk()
        for text, parts in (("never", "1"), ("always", "1"), ("p", "1"), ("q", "1"), ("not p", "2"),
                            ("( p leads not q )", "4"), ("( ( p more q ) less not never )", "6")):
            self.assert_tells(desk, ("say a " + text, parts), ("show a", text))

    def test_say_many(self):
        desk = Desk()
        for k, plan in enumerate(some_plans(60, range(1, 25))):
            name = "abcdefgh"[:1 + k % 8]
            parts = len([word for word in text_of(plan).split(" ") if word in LEAVES + ("not", "(")])
            self.assert_tells(desk, ("say " + name + " " + text_of(plan), str(parts)), ("show " + name, text_of(plan)))

    def test_names_of_one_and_eight_letters(self):
        desk = Desk()
        for name in ("a", "z", "p", "say", "names", "none", "abcdefgh", "zzzzzzzz", "always", "not"):
            self.assert_tells(desk, ("say " + name + " ( p less q )", "3"), ("show " + name, "( p less q )"))
        self.assert_tells(desk, ("names", "a abcdefgh always names none not p say z zzzzzzzz"))

    def test_names(self):
        desk = Desk()
        self.assert_tells(desk, ("names", "none"), ("say b p", "1"), ("names", "b"), ("say a q", "1"), ("names", "a b"),
                          ("say ab q", "1"), ("names", "a ab b"), ("drop a", "dropped"), ("names", "ab b"),
                          ("drop b", "dropped"), ("drop ab", "dropped"), ("names", "none"))

    def test_a_name_kept_anew(self):
        desk = desk_with("say a p", "say b q", "say c never")
        self.assert_tells(desk, ("say b not p", "2"), ("names", "a b c"), ("show b", "not p"), ("show a", "p"),
                          ("show c", "never"))

    def test_a_dropped_name_may_be_kept_again(self):
        desk = desk_with("say a p", "drop a")
        self.assert_refused(desk, "show a", NoName, "name", "a")
        self.assert_tells(desk, ("say a not q", "2"), ("show a", "not q"))

    def test_put(self):
        desk = desk_with("say a ( p leads q )", "say b not p", "say c ( q more p )")
        self.assert_tells(desk, ("put d a b c", "6"), ("show d", "( not p leads ( q more p ) )"), ("names", "a b c d"),
                          ("put e c a b", "6"), ("show e", "( not p more ( p leads q ) )"),
                          ("put f b c a", "4"), ("show f", "not ( q more p )"), ("show a", "( p leads q )"))

    def test_put_with_the_same_name(self):
        desk = desk_with("say a ( p leads q )")
        self.assert_tells(desk, ("put a a a a", "7"), ("show a", "( ( p leads q ) leads ( p leads q ) )"),
                          ("names", "a"), ("say b not p", "2"), ("put b b b a", "3"), ("show b", "not not p"),
                          ("put b b a b", "9"), ("show b", "not not ( ( p leads q ) leads ( p leads q ) )"))

    # What was put stays as it was, whatever becomes of its parts.
    def test_put_stays(self):
        desk = desk_with("say a ( p leads q )", "say b not p", "put c a b b", "say b never", "drop a")
        self.assert_tells(desk, ("show c", "( not p leads not p )"), ("names", "b c"), ("show b", "never"))

    def test_worth(self):
        desk = desk_with("say a ( p leads not q )")
        self.assert_tells(desk, ("worth a 10 7 6", "7"), ("worth a 1 0 0", "1"), ("worth a 1 1 1", "0"),
                          ("worth a 10 0 10", "10"))

    def test_worth_of_twenty_figures(self):
        desk = desk_with("say a ( p leads not q )", "say b ( p less q )")
        self.assert_tells(desk, ("worth a %d %d 1" % (TWENTY, TWENTY), str(TWENTY - 1)),
                          ("worth b %d %d %d" % (TWENTY, TWENTY - 7, TWENTY - 9), str(TWENTY - 16)),
                          ("worth a %d 0 %d" % (TWENTY, TWENTY), str(TWENTY)))

    def test_worth_of_many(self):
        chance = random.Random(140)
        desk = Desk()
        for plan in some_plans(60, range(1, 25)):
            desk.tell("say a " + text_of(plan))
            n = chance.choice((1, 2, 9, 40, TWENTY))
            x, y = chance.randrange(n + 1), chance.randrange(n + 1)
            self.assert_tells(desk, ("worth a %d %d %d" % (n, x, y), str(worth_of(plan, n, x, y))))

    def test_rows(self):
        desk = desk_with("say a p", "say b ( p more p )", "say c ( ( p leads q ) greater not ( p leads q ) )")
        self.assert_tells(desk, ("rows a", "1"), ("rows b", "2"), ("rows c", "5"))

    def test_line(self):
        desk = Desk()
        for text, line in (("p", "1 1 0"), ("not p", "1 -1 1"), ("never", "1 0 0"), ("always", "1 0 1"),
                           ("( p more p )", "1/2 2 0; 1 0 1"), ("( p less p )", "1/2 0 0; 1 2 -1"),
                           ("( ( p more p ) more p )", "1/3 3 0; 1 0 1"),
                           ("( ( p more p ) lesser ( not p more not p ) )", "1/2 2 0; 1 -2 2"),
                           ("( ( p more p ) less ( p more p ) )", "1/4 0 0; 1/2 4 -1; 1 0 1")):
            desk.tell("say a " + text)
            self.assert_tells(desk, ("line a", line))

    def test_least_always_and_steps(self):
        desk = Desk()
        for text, least, always, steps in (
            ("always", "1", "yes", "none"), ("never", "0", "no", "1"), ("p", "0", "no", "1"),
            ("( p leads ( q leads p ) )", "1", "yes", "none"), ("( p greater not p )", "1/2", "no", "2"),
            ("( ( p more p ) greater ( ( not p less not p ) less not p ) )", "2/5", "no", "3"),
            ("( ( ( p more p ) more p ) greater not p )", "3/4", "no", "4"),
            ("( not ( ( p more p ) less ( p more p ) ) greater ( ( p more p ) more p ) )", "6/7", "no", "7"),
        ):
            desk.tell("say a " + text)
            self.assert_tells(desk, ("least a", least), ("always a", always), ("steps a", steps))

    def test_lack_and_alike(self):
        desk = desk_with("say a p", "say b ( p less p )", "say c not not p", "say d always")
        self.assert_tells(desk, ("lack a b", "1/2"), ("lack b a", "0"), ("lack a a", "0"), ("lack d a", "1"),
                          ("lack a d", "0"), ("alike a b", "no"), ("alike b a", "no"), ("alike a c", "yes"),
                          ("alike c a", "yes"), ("alike a a", "yes"), ("alike d a", "no"))

    def test_asking_changes_nothing(self):
        desk = desk_with("say a ( p less not p )", "say b p")
        kept = self.all_it_keeps(desk)
        for k in range(2):
            for line in ASKS:
                desk.tell(line)
        self.assertEqual(self.all_it_keeps(desk), kept)

    def test_two_desks_keep_nothing_of_one_another(self):
        one = desk_with("say a p")
        other = Desk()
        self.assert_tells(other, ("names", "none"), ("say a q", "1"), ("say b q", "1"))
        self.assert_tells(one, ("names", "a"), ("show a", "p"), ("drop a", "dropped"), ("names", "none"))
        self.assert_tells(other, ("names", "a b"), ("show a", "q"))


class NoCalls(DeskCase):
    def setUp(self):
        self.desk = desk_with("say a p", "say b ( p leads q )")

    def test_words_that_are_none(self):
        for line in ("", " ", "a", "p", "sho a", "Show a", "SHOW a", "shows a", "say", "tell a", "name", "namess",
                     "Names", "drops a", "help", "sayy a p", "Say a p", "worths a 7 5 3", "new a", "( p leads q )"):
            self.assert_no_call(self.desk, line)

    def test_words_too_few_and_too_many(self):
        for line in ASKS + ("put c a b a", "names", "drop a"):
            words = line.split(" ")
            for count in range(1, len(words)):
                self.assert_no_call(self.desk, " ".join(words[:count]))
            for more in ("a", "7", "p", "", "  "):
                self.assert_no_call(self.desk, line + " " + more)
        for line in ("say", "say a", "say ab"):
            self.assert_no_call(self.desk, line)

    def test_blanks(self):
        for line in ASKS + ("put c a b a", "names", "drop a", "say c p"):
            words = line.split(" ")
            self.assert_no_call(self.desk, " " + line)
            self.assert_no_call(self.desk, "  " + line)
            for k in range(1, 2 if words[0] == "say" else len(words)):
                self.assert_no_call(self.desk, " ".join(words[:k]) + "  " + " ".join(words[k:]))
            if words[0] != "say":
                self.assert_no_call(self.desk, line + " ")
                self.assert_no_call(self.desk, line + "  ")

    def test_names_that_are_none(self):
        for name in NEVER_NAMES:
            for line in ("say {} p", "put {} a b a", "put c {} b a", "put c a {} a", "put c a b {}", "show {}",
                         "drop {}", "worth {} 7 5 3", "rows {}", "line {}", "least {}", "lack {} b", "lack a {}",
                         "always {}", "alike {} b", "alike a {}", "steps {}"):
                self.assert_no_call(self.desk, line.format(name))

    def test_numbers_that_are_none(self):
        for number in NEVER_NUMBERS:
            for line in ("worth a {} 0 0", "worth a 7 {} 3", "worth a 7 5 {}"):
                self.assert_no_call(self.desk, line.format(number))

    def test_ahead_of_no_name(self):
        for line in ("show c d", "put d c c", "put D c c c", "worth c 7 5", "worth c 07 5 3", "lack c", "alike c D",
                     "drop c ", "rows  c"):
            self.assert_no_call(self.desk, line)

    def test_ahead_of_what_is_done(self):
        for line in ("say A (", "say  (", "worth a 0 0 00", "worth a 1 2 -3", "line b b"):
            self.assert_no_call(self.desk, line)


class NoNames(DeskCase):
    def setUp(self):
        self.desk = desk_with("say a p", "say b ( p leads q )")

    def test_each(self):
        for line in ("show c", "drop c", "worth c 7 5 3", "rows c", "line c", "least c", "always c", "steps c",
                     "lack c a", "lack a c", "alike c a", "alike a c", "put a c a a", "put a a c a", "put a a a c",
                     "lack c c", "put c c a b", "alike c c"):
            self.assert_refused(self.desk, line, NoName, "name", "c")

    def test_the_first(self):
        for line in ("lack d c", "alike d c", "put a d c e", "put a a d c", "put a d a c", "put c d c c"):
            self.assert_refused(self.desk, line, NoName, "name", "d")

    def test_by_a_desk_without_names(self):
        for line in ASKS + ("drop a", "put b a a a"):
            self.assert_refused(Desk(), line, NoName, "name", "a")

    def test_a_name_is_not_its_beginning(self):
        self.assert_refused(self.desk, "show ab", NoName, "name", "ab")

    def test_ahead_of_what_is_done(self):
        self.assert_refused(self.desk, "worth c 0 0 0", NoName, "name", "c")
        self.assert_refused(self.desk, "worth c 7 8 9", NoName, "name", "c")
        desk = desk_with("say a " + nested("more", 9), "say b ( p leads q )")
        for line in ("lack a c", "alike a c", "put d a a c"):
            self.assert_refused(desk, line, NoName, "name", "c")

    def test_new_names_need_not_be(self):
        self.assert_tells(self.desk, ("say c p", "1"), ("put d a b a", "3"), ("names", "a b c d"))


class Done(DeskCase):
    def test_no_text(self):
        desk = desk_with("say a p")
        for text, at in (("", 0), (" ", 0), (" p", 0), ("  p", 0), ("p ", 1), ("p  ", 1), ("r", 0), ("P", 0),
                         ("( p", 2), ("( p more", 3), ("( p more q", 4), ("( p more q ) )", 5), ("not", 1),
                         ("not not", 2), ("( p q )", 2), ("p q", 1), ("(p more q)", 0), ("( p  more q )", 2),
                         ("say a p", 0), ("a", 0)):
            for name in ("a", "b"):
                self.assert_refused(desk, "say " + name + " " + text, NoText, "at", at)

    def test_too_many_parts_said(self):
        desk = desk_with("say a p")
        most = "not " * 23 + "p"
        self.assert_tells(desk, ("say b " + most, "24"), ("show b", most))
        for text in ("not " * 24 + "p", "not " * 100 + "q", nested("leads", 12)):
            for name in ("a", "b", "c"):
                self.assert_refused(desk, "say " + name + " " + text, TooMany)
        self.assert_tells(desk, ("say b " + nested("leads", 11), "23"))

    def test_no_text_ahead_of_too_many_parts(self):
        self.assert_refused(Desk(), "say a " + "not " * 24 + "r", NoText, "at", 24)

    def test_too_many_parts_put(self):
        desk = desk_with("say a " + "not " * 12 + "p", "say b ( p more q )", "say c " + "not " * 11 + "p",
                         "say f " + "not " * 10 + "p")
        self.assert_tells(desk, ("put d a c a", "24"), ("put e b c f", "24"), ("put e b f c", "24"))
        for line in ("put g a a a", "put a a a c", "put g b c c", "put b b a f", "put d d b b", "put a a d a",
                     "put e e e e"):
            self.assert_refused(desk, line, TooMany)

    def test_no_point(self):
        desk = desk_with("say a p")
        for line in ("worth a 0 0 0", "worth a 7 8 0", "worth a 7 0 8", "worth a 1 2 2", "worth a 0 1 1",
                     "worth a %d %d 0" % (TWENTY - 1, TWENTY)):
            self.assert_refused(desk, line, NoPoint)

    def test_no_letter(self):
        desk = desk_with("say a q", "say b ( p leads q )", "say c ( p less not p )")
        for line in ("line a", "line b"):
            self.assert_refused(desk, line, NoLetter)
        self.assert_tells(desk, ("line c", "1 0 0"))

    def test_too_many_folds(self):
        desk = desk_with("say a " + nested("more", 9), "say b p", "say c " + nested("more", 8),
                         "say d " + nested("less", 7))
        for line in ("least a", "always a", "steps a", "lack a b", "lack b a", "alike a b", "alike b a", "lack c b",
                     "lack b c", "alike c d", "alike c c", "lack d d", "alike d c"):
            self.assert_refused(desk, line, TooMany)
        self.assert_tells(desk, ("least c", "0"), ("always c", "no"), ("steps c", "1"), ("alike c b", "no"),
                          ("alike b c", "no"), ("lack d b", "0"), ("lack b d", "7/8"), ("rows a", "10"),
                          ("line a", "1/10 10 0; 1 0 1"), ("show a", nested("more", 9)))

    def test_answers_as_ahead_behind_refusals(self):
        desk = desk_with("say a p", "say b ( p leads q )", "say c " + nested("more", 9))
        ahead = [desk.tell(line) for line in ASKS if line != "line a"]
        for line in ("say a (", "say b p q", "say d", "put a c c c", "worth a 7 9 9", "line b", "least c", "drop e",
                     "names a", "lack c b", "put a b e a"):
            with self.assertRaises(SayError):
                desk.tell(line)
        self.assertEqual([desk.tell(line) for line in ASKS if line != "line a"], ahead)
        self.assert_tells(desk, ("names", "a b c"), ("show a", "p"), ("show b", "( p leads q )"))


class ByChance(DeskCase):
    # The desk beside a plain record of what it was told.
    def test_many_lines(self):
        chance = random.Random(141)
        desk = Desk()
        kept = {}
        for k in range(600):
            name = chance.choice(("a", "b", "c", "deed", "z"))
            word = chance.choice(("say", "show", "drop", "names", "worth", "least"))
            plan = some_folded_plan(chance, chance.choice((0, 1, 2, 3)))
            if word == "say":
                desk.tell("say " + name + " " + text_of(plan))
                kept[name] = plan
            elif word == "names":
                self.assert_tells(desk, ("names", " ".join(sorted(kept)) or "none"))
            elif name not in kept:
                line = {"worth": "worth %s 7 5 3"}.get(word, word + " %s") % name
                self.assert_refused(desk, line, NoName, "name", name)
            elif word == "drop":
                self.assert_tells(desk, ("drop " + name, "dropped"))
                kept.pop(name)
            elif word == "show":
                self.assert_tells(desk, ("show " + name, text_of(kept[name])))
            elif word == "worth":
                self.assert_tells(desk, ("worth " + name + " 7 5 3", str(worth_of(kept[name], 7, 5, 3))))
            else:
                self.assertLessEqual(folds_in(kept[name]), 8)
                self.assertRegex(desk.tell("least " + name), r"^\d+(/\d+)?$")


if __name__ == "__main__":
    unittest.main()
