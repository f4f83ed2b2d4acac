"""Promise 4: the errors, what they derive from, and the argument that each keeps."""

import unittest

from helpers import any_values
from setitback import errors

KEPT = {
    "BadOctets": "at", "BadBond": "at", "BadMachine": "at", "BadWeight": "at", "BadTree": "at", "BadText": "at",
    "Refused": "value", "Broken": "at", "TooGreat": "most", "NoFilling": "value", "NoSituation": "value",
}


class Errors(unittest.TestCase):
    def test_bases(self):
        self.assertEqual(errors.OwnError.__bases__, (ValueError,))
        for name in KEPT:
            base = KeyError if name.startswith("No") else errors.OwnError
            self.assertEqual(getattr(errors, name).__bases__, (base,), name)

    def test_each_keeps_its_argument(self):
        for name, attribute in KEPT.items():
            for value in any_values() + [{1: 2}, {3}, 0.5, b"x", object()]:
                error = getattr(errors, name)(value)
                self.assertIs(getattr(error, attribute), value)
                self.assertIs(getattr(getattr(errors, name)(**{attribute: value}), attribute), value)

    def test_one_argument(self):
        for name in KEPT:
            self.assertRaises(TypeError, getattr(errors, name))
            self.assertRaises(TypeError, getattr(errors, name), 1, 2)

    def test_raised_and_caught(self):
        for name, attribute in KEPT.items():
            kind = getattr(errors, name)
            with self.assertRaises(KeyError if name.startswith("No") else ValueError) as caught:
                raise kind([1])
            self.assertEqual(getattr(caught.exception, attribute), [1])
            self.assertIsInstance(str(caught.exception), str)


if __name__ == "__main__":
    unittest.main()
