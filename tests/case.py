"""What several tests ask of a function."""

import unittest


class Case(unittest.TestCase):
    def fails(self, error, fields, function, *arguments):
        """A function raises just this error, with these fields."""
        with self.assertRaises(error) as caught:
            function(*arguments)
        self.assertIs(caught.exception.__class__, error)
        self.assertEqual(vars(caught.exception), fields)

    def are_defined_in(self, module, names):
        for name in names:
            self.assertEqual(getattr(module, name).__module__, module.__name__)
