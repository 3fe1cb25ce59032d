import inspect
import unittest

from leapranks import errors

NAMES = ("NoPush", "NoChange", "NoPart", "NoPrime", "NoLuck", "TooFew", "NoOrder", "NoBack",
         "NoText", "NoRow", "NoName", "NoNumber")


class ErrorsTest(unittest.TestCase):
    def test_rank_error_is_straight_under_value_error(self):
        self.assertEqual(errors.RankError.__bases__, (ValueError,))

    def test_each_is_straight_under_rank_error(self):
        for name in NAMES:
            with self.subTest(name=name):
                self.assertEqual(getattr(errors, name).__bases__, (errors.RankError,))

    def test_none_is_under_another_one(self):
        classes = [getattr(errors, name) for name in NAMES]
        self.assertEqual(len(set(classes)), len(NAMES))
        for one in classes:
            for other in classes:
                self.assertEqual(issubclass(one, other), one is other)

    def test_each_is_defined_in_its_file(self):
        for name in NAMES + ("RankError",):
            self.assertEqual(getattr(errors, name).__module__, "leapranks.errors")

    def test_there_are_no_others(self):
        told = {name for name, one in inspect.getmembers(errors, inspect.isclass)}
        self.assertEqual(told, set(NAMES) | {"RankError"})

    def test_no_text_has_its_line(self):
        for line in (0, 1, 17):
            self.assertEqual(errors.NoText(line).line, line)
        self.assertEqual(errors.NoText().line, 0)

    def test_each_can_be_raised_and_caught_as_rank_error(self):
        for name in NAMES:
            with self.assertRaises(errors.RankError):
                raise getattr(errors, name)()


if __name__ == "__main__":
    unittest.main()
