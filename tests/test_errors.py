"""The error classes of the interface."""

import unittest

from downwords import errors
from downwords.errors import DownwordsError

FIELDS = {
    "InvalidAlphabet": [],
    "InvalidProduct": ["index"],
    "AlphabetMismatch": [],
    "TooLarge": ["limit"],
    "TooMany": ["limit"],
    "NoSuchWord": ["number"],
    "InvalidExpression": ["index"],
    "InvalidProduction": ["index"],
    "UnknownSymbol": ["symbol"],
    "InvalidText": ["line"],
    "InvalidDefinition": [],
    "UndefinedName": ["name"],
    "CyclicDefinition": ["name"],
    "NothingToUndo": [],
    "NothingToRedo": [],
}

VALUES = [0, 12, -1, None, True, "S", "", "{x}", [1], ("a", 2), {"a": []}]


class TestErrors(unittest.TestCase):

    def test_base_class(self):
        self.assertEqual(DownwordsError.__bases__, (ValueError,))

    def test_each_class_is_directly_below_the_base(self):
        for name in FIELDS:
            self.assertEqual(getattr(errors, name).__bases__, (DownwordsError,), name)

    def test_no_class_is_another_one(self):
        classes = [getattr(errors, name) for name in FIELDS]
        self.assertEqual(len(set(classes)), len(FIELDS))
        for name in FIELDS:
            self.assertEqual(getattr(errors, name).__name__, name)
            self.assertEqual(getattr(errors, name).__module__, "downwords.errors")

    def test_fields_are_attributes(self):
        for name, fields in FIELDS.items():
            for value in VALUES:
                with self.subTest(name=name, value=value):
                    error = getattr(errors, name)(*[value for _ in fields])
                    for field in fields:
                        self.assertIs(getattr(error, field), value)
                    self.assertEqual(list(vars(error)), fields)

    def test_raised_and_caught(self):
        for name, fields in FIELDS.items():
            error = getattr(errors, name)
            for caught in (error, DownwordsError, ValueError):
                with self.assertRaises(caught) as context:
                    raise error(*[3 for _ in fields])
                self.assertIsInstance(str(context.exception), str)

    def test_a_field_is_required(self):
        for name, fields in FIELDS.items():
            if fields:
                with self.assertRaises(TypeError):
                    getattr(errors, name)()


if __name__ == "__main__":
    unittest.main()
