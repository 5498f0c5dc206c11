import unittest

from samples import both_deeds
from unmixed import errors
from unmixed.errors import RowError
from unmixed.histories import History

NAMES = [
    "InvalidHand", "InvalidMark", "InvalidDeed", "InvalidHistory", "InvalidView", "InvalidOrder", "InvalidRun",
    "InvalidPlace", "InvalidWord", "InvalidSteps", "InvalidRows", "InvalidNumber", "InvalidNet", "InvalidScript",
    "InvalidText", "InvalidRecord", "Refused", "NothingToUndo", "NothingToRedo",
]


class Classes(unittest.TestCase):
    """[5]"""

    def test_row_error_stands_straight_beneath_value_error(self):
        self.assertEqual(RowError.__bases__, (ValueError,))

    def test_all_others_stand_straight_beneath_row_error(self):
        for name in NAMES:
            self.assertEqual(getattr(errors, name).__bases__, (RowError,), name)

    def test_each_is_defined_in_its_file(self):
        for name in [*NAMES, "RowError"]:
            self.assertEqual(getattr(errors, name).__module__, "unmixed.errors", name)

    def test_there_are_no_others(self):
        found = [name for name, value in vars(errors).items() if isinstance(value, type)]
        self.assertEqual(sorted(found), sorted([*NAMES, "RowError"]))


class Values(unittest.TestCase):
    """[5]"""

    def test_value_is_the_very_object(self):
        history = History(both_deeds())
        for name in [*NAMES, "RowError"]:
            for value in [[], {}, (), "ann", 0, True, None, ["a", [1]], history, RowError(1)]:
                made = getattr(errors, name)
                self.assertIs(made(value).value, value)
                self.assertIs(made(value=value).value, value)

    def test_value_is_none_if_left_out(self):
        for name in [*NAMES, "RowError"]:
            self.assertIsNone(getattr(errors, name)().value)

    def test_there_is_no_second_argument(self):
        for name in [*NAMES, "RowError"]:
            with self.assertRaises(TypeError):
                getattr(errors, name)(1, 2)

    def test_each_is_caught_as_row_error_and_as_value_error(self):
        for name in NAMES:
            for caught in [RowError, ValueError]:
                with self.assertRaises(caught) as held:
                    raise getattr(errors, name)(name)
                self.assertEqual(held.exception.value, name)


if __name__ == "__main__":
    unittest.main()
