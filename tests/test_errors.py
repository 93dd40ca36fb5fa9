"""Point [2], its last sentence, and the interface's part leansay/errors.py."""

import copy
import unittest

from leansay import errors

MADE_OF_FIELDS = {
    "NoText": (("at", 7),),
    "NoRows": (("at", 0),),
    "NoLine": (("word", "jump"), ("at", 3)),
    "NoCall": (("line", "shew a"),),
    "NoName": (("name", "abc"),),
}
MADE_OF_A_TEXT = ("NoNumber", "TooMany", "NoPoint", "NoLetter", "NoCut")
TEN = tuple(MADE_OF_FIELDS) + MADE_OF_A_TEXT


class Classes(unittest.TestCase):
    def test_say_error_stands_right_under_value_error(self):
        self.assertEqual(errors.SayError.__bases__, (ValueError,))

    def test_each_refusal_stands_right_under_say_error(self):
        self.assertEqual(len(set(getattr(errors, name) for name in TEN)), 10)
        for name in TEN:
            with self.subTest(name):
                self.assertEqual(getattr(errors, name).__bases__, (errors.SayError,))
                self.assertEqual(getattr(errors, name).__name__, name)

    def test_no_refusal_stands_under_another(self):
        for one in TEN:
            for other in TEN:
                if one != other:
                    with self.subTest(one=one, other=other):
                        self.assertFalse(issubclass(getattr(errors, one), getattr(errors, other)))

    def test_each_is_taken_as_itself_as_say_error_and_as_value_error(self):
        for name in TEN:
            kind = getattr(errors, name)
            made_of = [value for field, value in MADE_OF_FIELDS.get(name, (("text", "words"),))]
            for taken in (kind, errors.SayError, ValueError):
                with self.subTest(name, taken=taken), self.assertRaises(taken):
                    raise kind(*made_of)


class Fields(unittest.TestCase):
    def test_fields_in_their_order(self):
        for name, fields in MADE_OF_FIELDS.items():
            with self.subTest(name):
                made = getattr(errors, name)(*[value for field, value in fields])
                self.assertEqual(vars(made), dict(fields))

    def test_fields_by_their_names(self):
        for name, fields in MADE_OF_FIELDS.items():
            with self.subTest(name):
                self.assertEqual(vars(getattr(errors, name)(**dict(fields))), dict(fields))

    def test_no_other_number_of_fields_makes_one(self):
        for name, fields in MADE_OF_FIELDS.items():
            values = [value for field, value in fields]
            for wrong in (values[1:], values + [0]):
                with self.subTest(name, wrong=wrong), self.assertRaises(TypeError):
                    getattr(errors, name)(*wrong)

    def test_the_others_are_made_of_one_text(self):
        for name in MADE_OF_A_TEXT:
            with self.subTest(name):
                made = getattr(errors, name)("why it was refused")
                self.assertEqual(str(made), "why it was refused")
                self.assertEqual(vars(made), {})

    def test_each_has_its_own_fields(self):
        one = errors.NoLine("end", 1)
        other = errors.NoLine("short", 2)
        self.assertEqual((one.word, one.at, other.word, other.at), ("end", 1, "short", 2))

    def test_a_copy_has_the_same_fields(self):
        for name, fields in MADE_OF_FIELDS.items():
            with self.subTest(name):
                made = copy.copy(getattr(errors, name)(*[value for field, value in fields]))
                self.assertEqual(vars(made), dict(fields))


if __name__ == "__main__":
    unittest.main()
