import unittest

from seeall import errors

NAMES = (
    "NoBoard", "NoPiece", "NoCell", "NoLot", "NoSight", "NoNumber",
    "NoPrices", "NoTurn", "NoPlacing", "NoText", "NoLine", "NoDeed",
)


class ErrorsTest(unittest.TestCase):
    def test_sight_error_is_a_value_error(self):
        self.assertEqual(errors.SightError.__bases__, (ValueError,))
        self.assertEqual(str(errors.SightError("why")), "why")

    def test_each_is_straight_under_sight_error(self):
        for name in NAMES + ("TooGreat",):
            with self.subTest(name=name):
                self.assertEqual(getattr(errors, name).__bases__, (errors.SightError,))

    def test_each_is_a_class_of_its_own(self):
        classes = [getattr(errors, name) for name in NAMES + ("TooGreat",)]
        for one in classes:
            self.assertEqual([other for other in classes if issubclass(one, other)], [one])

    def test_each_is_made_with_a_text(self):
        for name in NAMES:
            with self.subTest(name=name):
                made = getattr(errors, name)("some text")
                self.assertEqual(str(made), "some text")
                self.assertIsInstance(made, errors.SightError)
                self.assertIsInstance(made, ValueError)

    def test_too_great_has_its_fields(self):
        made = errors.TooGreat(64, 12)
        self.assertEqual((made.many, made.most), (64, 12))
        self.assertIsInstance(made, errors.SightError)
        self.assertIsInstance(made, ValueError)
        self.assertIsInstance(str(made), str)

    def test_too_great_takes_both_fields(self):
        for told in ((), (13,), (13, 12, 11)):
            with self.assertRaises(TypeError):
                errors.TooGreat(*told)


if __name__ == "__main__":
    unittest.main()
