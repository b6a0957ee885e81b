"""lostlines/errors.py: the error classes and their fields."""

import unittest

from lostlines import errors

FIELDS = {
    "BadMachine": "part", "BadProgram": "index", "BadTerm": None, "BadWishes": "index", "BadLosses": None,
    "BadNumber": None, "BadChance": None, "NoProgram": None, "BadStep": None, "TooMany": "most",
    "BadText": "line", "BadRule": None, "BadSwaps": None, "BadTalk": "index", "BadCells": None,
    "BadRelay": "index",
}


class Errors(unittest.TestCase):
    def test_base(self):
        self.assertEqual(errors.LinesError.__bases__, (ValueError,))

    def test_direct_subclasses(self):
        for name in FIELDS:
            with self.subTest(name):
                self.assertEqual(getattr(errors, name).__bases__, (errors.LinesError,))

    def test_fields(self):
        for name, field in FIELDS.items():
            if field is None:
                continue
            with self.subTest(name):
                for worth in ("cells", 0, 7, None):
                    self.assertEqual(getattr(getattr(errors, name)(worth), field), worth)

    def test_without_fields(self):
        for name, field in FIELDS.items():
            if field is None:
                with self.subTest(name), self.assertRaises(getattr(errors, name)):
                    raise getattr(errors, name)()

    def test_defined_in_their_file(self):
        for name in [*FIELDS, "LinesError"]:
            with self.subTest(name):
                self.assertEqual(getattr(errors, name).__module__, "lostlines.errors")


if __name__ == "__main__":
    unittest.main()
