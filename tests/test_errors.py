"""[2] and the interface: the refusals."""

import unittest

from somesay import errors

PLAIN = (errors.Taken, errors.TooMany, errors.NoLabel)
WITH_FIELD = ((errors.BadText, "word"), (errors.BadRow, "row"))
ALL = PLAIN + tuple(kind for kind, _ in WITH_FIELD)


class ErrorsTest(unittest.TestCase):
    def test_say_error_stands_straight_under_value_error(self):
        self.assertEqual(errors.SayError.__bases__, (ValueError,))
        self.assertEqual(str(errors.SayError("so it is")), "so it is")

    def test_each_stands_straight_under_say_error(self):
        for kind in ALL:
            self.assertEqual(kind.__bases__, (errors.SayError,))

    def test_none_stands_under_another(self):
        for one in ALL:
            self.assertEqual([other for other in ALL if issubclass(one, other)], [one])

    def test_made_with_words(self):
        for kind in PLAIN:
            self.assertEqual(str(kind("a few words")), "a few words")
            with self.assertRaises(errors.SayError):
                raise kind("a few words")

    def test_fields_stand_behind_the_words(self):
        for kind, field in WITH_FIELD:
            for number in (0, 7):
                refusal = kind("a few words", number)
                self.assertEqual(getattr(refusal, field), number)
                self.assertEqual(str(refusal), "a few words")
            with self.assertRaises(ValueError):
                raise kind("a few words", 3)


if __name__ == "__main__":
    unittest.main()
