import unittest

from fewbends import errors

NAMES = [
    "NoMap", "NotFlat", "NoLand", "NoNet", "NoShape",
    "NoLaid", "NoText", "NoPicture", "NoRow", "NoThing",
]


class Errors(unittest.TestCase):
    def test_bend_error_is_a_value_error(self):
        self.assertEqual(errors.BendError.__bases__, (ValueError,))

    def test_each_refusal_stands_straight_under_bend_error(self):
        for name in NAMES:
            with self.subTest(name):
                self.assertEqual(getattr(errors, name).__bases__, (errors.BendError,))

    def test_none_stands_under_another_one(self):
        for name in NAMES:
            for other in NAMES:
                if name != other:
                    below = issubclass(getattr(errors, name), getattr(errors, other))
                    self.assertFalse(below, (name, other))

    def test_there_are_ten_and_no_other_one(self):
        below = errors.BendError.__subclasses__()
        self.assertEqual(sorted(one.__name__ for one in below), sorted(NAMES))

    def test_each_can_be_raised_and_taken_as_bend_error(self):
        for name in NAMES:
            with self.assertRaises(errors.BendError):
                raise getattr(errors, name)("words")


if __name__ == "__main__":
    unittest.main()
