"""Promise 4 and learnways/errors.py."""

import unittest

from learnways import errors

PLAIN = (
    "NoCourse", "NoItem", "NoSet", "NoState", "NoOrder", "NoAnswers", "NoDurations", "NoNames", "NoPlace", "NoDeed",
    "OtherCourse",
)


class Errors(unittest.TestCase):
    def test_all_stand_directly_below_learn_error(self):
        self.assertEqual(errors.LearnError.__bases__, (ValueError,))
        for name in (*PLAIN, "Clash", "TooMany", "BadText"):
            with self.subTest(name=name):
                self.assertEqual(getattr(errors, name).__bases__, (errors.LearnError,))
                self.assertEqual(getattr(errors, name).__module__, "learnways.errors")

    def test_plain_ones_are_raised_with_a_message(self):
        for name in PLAIN:
            with self.subTest(name=name), self.assertRaises(ValueError):
                raise getattr(errors, name)("why")

    def test_fields(self):
        clash = errors.Clash(4, (1, 2))
        self.assertEqual((clash.item, clash.noes), (4, (1, 2)))
        self.assertEqual(errors.TooMany(12).limit, 12)
        self.assertEqual(errors.BadText(0).line, 0)
        for error in (clash, errors.TooMany(12), errors.BadText(25)):
            self.assertIsInstance(str(error), str)
            with self.assertRaises(errors.LearnError):
                raise error


if __name__ == "__main__":
    unittest.main()
