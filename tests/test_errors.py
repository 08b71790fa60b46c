import unittest

from farhold import errors

NAMES = ("NoHouse", "NotHeld", "NotNear", "Missing", "NoWeight", "NoLetter", "NoInquiry", "NoRow")
CLASSES = tuple(getattr(errors, name) for name in NAMES)


class ErrorsTest(unittest.TestCase):
    def test_hold_error_stands_straight_under_value_error(self):
        self.assertEqual(errors.HoldError.__bases__, (ValueError,))

    def test_each_class_stands_straight_under_hold_error(self):
        for one in CLASSES:
            self.assertEqual(one.__bases__, (errors.HoldError,), one)

    def test_each_class_bears_its_own_name(self):
        self.assertEqual(tuple(one.__name__ for one in CLASSES), NAMES)

    def test_each_class_is_taken_by_hold_error_and_value_error(self):
        for one in CLASSES:
            for taker in (errors.HoldError, ValueError, one):
                with self.assertRaises(taker):
                    raise one("words")

    def test_no_class_is_taken_by_another_one_of_the_eight(self):
        for one in CLASSES:
            others = tuple(other for other in CLASSES if other is not one)
            self.assertEqual(len(others), 7)
            try:
                raise one("words")
            except others:
                self.fail(f"{one} is taken by another one")
            except errors.HoldError:
                pass

    def test_hold_error_is_taken_by_none_of_the_eight(self):
        for one in CLASSES:
            self.assertFalse(issubclass(errors.HoldError, one))


if __name__ == "__main__":
    unittest.main()
