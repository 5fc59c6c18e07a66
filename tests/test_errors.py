"""Section 2 and the interface: the errors."""

import inspect
import unittest

from scriptsamid import errors
from samples import ANY_VALUES

NAMES = (
    "BadRelease Doubled Unnamed RingOfNeeds TooLarge TooMany BadProgram BadWords NoProgram NoSet NoStep NoOrder "
    "Failed Endless BadMoment BadChoice BadStop NotLater OtherNames NotKept Busy NoCell NoWord NotLet Idle BadText "
    "BadLine"
).split(" ")


class Errors(unittest.TestCase):

    def test_all_of_the_list_are_there_and_no_others(self):
        there = [name for name, value in vars(errors).items() if isinstance(value, type)]
        self.assertEqual(sorted(there), sorted(NAMES + ["ScriptError"]))

    def test_script_error_derives_from_value_error(self):
        self.assertEqual(errors.ScriptError.__bases__, (ValueError,))

    def test_each_derives_directly_from_script_error(self):
        for name in NAMES:
            self.assertEqual(getattr(errors, name).__bases__, (errors.ScriptError,), name)

    def test_each_is_made_by_position_and_by_name_and_keeps_its_value(self):
        for name in NAMES + ["ScriptError"]:
            for value in ANY_VALUES:
                for error in (getattr(errors, name)(value), getattr(errors, name)(value=value)):
                    self.assertIs(error.value, value)

    def test_each_is_made_by_what_stands_in_its_own_class(self):
        for name in NAMES + ["ScriptError"]:
            own = vars(getattr(errors, name)).get("__init__")
            self.assertIsNotNone(own, name)
            self.assertEqual(list(inspect.signature(own).parameters), ["self", "value"], name)

    def test_each_is_caught_by_its_own_name_and_by_its_base(self):
        for name in NAMES:
            for kind in (getattr(errors, name), errors.ScriptError, ValueError):
                with self.assertRaises(kind) as caught:
                    raise getattr(errors, name)(("a", 1))
                self.assertEqual(caught.exception.value, ("a", 1))

    def test_each_takes_just_one_value(self):
        for name in NAMES:
            with self.assertRaises(TypeError):
                getattr(errors, name)()
            with self.assertRaises(TypeError):
                getattr(errors, name)(1, 2)


if __name__ == "__main__":
    unittest.main()
