import unittest

from overlapcode import errors
from tests.samples import any_values, same

ATTRIBUTES = {
    "InvalidInstructionSet": "field",
    "InvalidEntry": "value",
    "InvalidOffset": "value",
    "InvalidLengths": "value",
    "InvalidCountdowns": "value",
    "InvalidProgram": "value",
    "InvalidEntries": "value",
    "TooManyStates": "count",
    "InvalidNumber": "value",
    "InvalidCode": "value",
    "InvalidTimes": "value",
    "ParseError": "line",
    "CommandError": "line",
    "TooLong": "size",
}
NAMES = [*ATTRIBUTES, "NothingToUndo"]


class TestBases(unittest.TestCase):
    def test_overlap_error_is_a_value_error(self):
        self.assertEqual(errors.OverlapError.__bases__, (ValueError,))

    def test_overlap_error_without_arguments(self):
        with self.assertRaises(errors.OverlapError):
            raise errors.OverlapError()

    def test_each_error_derives_directly(self):
        for name in NAMES:
            with self.subTest(name=name):
                self.assertEqual(getattr(errors, name).__bases__, (errors.OverlapError,))

    def test_no_error_is_another_one(self):
        for name in NAMES:
            for other in NAMES:
                if name != other:
                    self.assertFalse(issubclass(getattr(errors, name), getattr(errors, other)), (name, other))

    def test_there_are_no_other_errors(self):
        found = {name for name, value in vars(errors).items() if isinstance(value, type)}
        self.assertEqual(found, {"OverlapError", *NAMES})


class TestAttributes(unittest.TestCase):
    def test_value_is_kept_as_passed(self):
        for name, attribute in ATTRIBUTES.items():
            for value in any_values():
                with self.subTest(name=name, value=value):
                    before = repr(value)
                    error = getattr(errors, name)(value)
                    self.assertIs(getattr(error, attribute), value)
                    self.assertEqual(repr(value), before)

    def test_value_by_name(self):
        for name, attribute in ATTRIBUTES.items():
            for value in any_values():
                error = getattr(errors, name)(**{attribute: value})
                self.assertIs(getattr(error, attribute), value)

    def test_each_object_has_its_own_value(self):
        for name, attribute in ATTRIBUTES.items():
            first = getattr(errors, name)([1])
            second = getattr(errors, name)((2,))
            self.assertTrue(same(getattr(first, attribute), [1]), name)
            self.assertTrue(same(getattr(second, attribute), (2,)), name)

    def test_value_after_raise(self):
        for name, attribute in ATTRIBUTES.items():
            value = [name]
            with self.assertRaises(errors.OverlapError) as caught:
                raise getattr(errors, name)(value)
            self.assertIs(type(caught.exception), getattr(errors, name))
            self.assertIs(getattr(caught.exception, attribute), value)

    def test_other_attributes_do_not_exist(self):
        for name, attribute in ATTRIBUTES.items():
            self.assertEqual(list(vars(getattr(errors, name)(0))), [attribute])

    def test_nothing_to_undo_has_none(self):
        error = errors.NothingToUndo()
        self.assertIsInstance(error, errors.OverlapError)
        self.assertEqual(vars(error), {})


if __name__ == "__main__":
    unittest.main()
