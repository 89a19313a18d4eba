import unittest

from tieword import errors

NAMES = ["TooGreat", "BadPlace", "BadTie", "BadOrder", "TooMany", "BadText", "BadName", "Twice", "NoWeb",
         "BadRule", "NoWay"]


class Refusals(unittest.TestCase):
    def test_any_refusal_is_a_value_error(self):
        self.assertTrue(issubclass(errors.WebError, ValueError))

    def test_all_stand_under_web_error(self):
        for name in NAMES:
            with self.subTest(name=name):
                refusal = getattr(errors, name)
                self.assertTrue(issubclass(refusal, errors.WebError))
                self.assertIsNot(refusal, errors.WebError)

    def test_none_stands_under_another(self):
        for name in NAMES:
            for other in NAMES:
                if name != other:
                    with self.subTest(name=name, other=other):
                        self.assertFalse(issubclass(getattr(errors, name), getattr(errors, other)))

    def test_each_is_raised_and_taken(self):
        for name in NAMES:
            with self.subTest(name=name):
                with self.assertRaises(errors.WebError):
                    raise getattr(errors, name)("words")


if __name__ == "__main__":
    unittest.main()
