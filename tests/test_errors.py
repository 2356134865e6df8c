"""[11] and what [4] says of errors."""

import inspect
import pathlib
import unittest

import calledbest
from calledbest import errors
from tests.helpers import any_values

FIELDS = {
    "Crosses": "crossing", "NoBrief": "index", "NoCall": "call", "NoCommand": None, "NoDeed": None, "NoIndex": "index",
    "NoKind": "kind", "NoNumber": "number", "NoText": "line", "NotCrossed": None, "Nothing": None, "NotNested": "fork",
    "TooLate": "day", "TooMany": "most", "Used": "name", "Wrong": "place",
}


class ErrorsTest(unittest.TestCase):

    def test_the_file_has_just_these_classes(self):
        classes = {name for name, thing in vars(errors).items() if inspect.isclass(thing)}
        self.assertEqual(classes, {"CallError", *FIELDS})

    def test_each_derives_from_call_error_alone(self):
        self.assertEqual(errors.CallError.__bases__, (ValueError,))
        for name in FIELDS:
            self.assertEqual(getattr(errors, name).__bases__, (errors.CallError,))

    def test_the_arguments_are_kept_themselves(self):
        for name, field in FIELDS.items():
            if field is None:
                self.assertEqual(vars(getattr(errors, name)()), {})
                continue
            for value in any_values():
                error = getattr(errors, name)(value)
                self.assertEqual(list(vars(error)), [field])
                self.assertIs(getattr(error, field), value)

    def test_the_arguments_have_their_names(self):
        for name, field in FIELDS.items():
            if field is not None:
                parameters = inspect.signature(getattr(errors, name)).parameters
                self.assertEqual(list(parameters), [field])

    def test_they_can_be_raised_and_caught_as_value_errors(self):
        for name, field in FIELDS.items():
            error = getattr(errors, name)() if field is None else getattr(errors, name)(["told"])
            with self.assertRaises(ValueError) as caught:
                raise error
            self.assertIs(caught.exception, error)

    def test_call_error_is_raised_nowhere(self):
        for path in pathlib.Path(calledbest.__file__).parent.glob("*.py"):
            self.assertNotIn("raise CallError", path.read_text())


if __name__ == "__main__":
    unittest.main()
