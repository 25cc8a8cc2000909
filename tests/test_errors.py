"""Point 2 and "The interface": the errors of the package."""

import unittest

from digitsturn import errors

FIELDS = {
    "BadWorld": "line", "BadClaim": None, "NoReading": "name", "NotTogether": None, "BadValues": "index",
    "NoActor": "name", "BadVersions": None, "BadPlan": "line", "BadChoice": None, "NoRegister": "name",
    "NothingToUndo": None,
}
CLASSES = {name: getattr(errors, name) for name in FIELDS}


class ErrorsTest(unittest.TestCase):
    def test_base_classes(self):
        self.assertEqual(errors.TurnError.__bases__, (ValueError,))
        for name, error in CLASSES.items():
            self.assertEqual(error.__bases__, (errors.TurnError,), name)
            self.assertEqual(error.__module__, "digitsturn.errors", name)
            self.assertEqual(error.__name__, name)

    def test_fields(self):
        for name, field in FIELDS.items():
            error = CLASSES[name]
            if field is None:
                self.assertEqual(vars(error()), {}, name)
                continue
            for value in (0, 7, -3, 10 ** 5000, "", "any text\n"):
                self.assertEqual(vars(error(value)), {field: value}, name)

    def test_fields_are_needed(self):
        for name, field in FIELDS.items():
            if field is not None:
                with self.assertRaises(TypeError, msg=name):
                    CLASSES[name]()

    def test_each_is_raised_and_caught_by_its_base(self):
        for name, field in FIELDS.items():
            made = CLASSES[name]() if field is None else CLASSES[name]("a")
            for base in (CLASSES[name], errors.TurnError, ValueError):
                with self.assertRaises(base) as caught:
                    raise made
                self.assertIs(caught.exception, made)
        with self.assertRaises(errors.TurnError):
            raise errors.TurnError()


if __name__ == "__main__":
    unittest.main()
