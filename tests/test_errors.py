import unittest

from everduel import errors

REFUSALS = ("BadText", "NoWay", "NoRoom", "NotRising", "BadMove", "Free", "Again")


class ErrorsTest(unittest.TestCase):
    def test_any_refusal_is_straight_under_value_error(self):
        self.assertEqual(errors.DuelError.__bases__, (ValueError,))

    def test_each_refusal_is_straight_under_duel_error(self):
        for name in REFUSALS:
            with self.subTest(name):
                self.assertEqual(getattr(errors, name).__bases__, (errors.DuelError,))

    def test_refusals_are_seven_classes(self):
        self.assertEqual(len({getattr(errors, name) for name in REFUSALS}), len(REFUSALS))


if __name__ == "__main__":
    unittest.main()
