"""The error classes [0.3]."""

import unittest

from namedmoments import errors
from tests.helpers import many_terms, no_fractions

FIELDS = {
    "BadCurve": "index", "BadText": "index", "BadMoment": "part", "BadFlow": "part",
    "BadLine": "number", "TooMany": "most", "Unknown": "name",
}
BARE = [
    "AllNought", "NoFraction", "NoNumber", "NoSide", "NoCurves", "NoCell", "NoLetters",
    "NoLetter", "NoSaying", "NoVessel", "NoPipe", "NoName", "NoCurve", "NothingDone",
]


def made():
    """An error of each class, by the names of the classes."""
    found = {name: getattr(errors, name)(1) for name in FIELDS}
    found.update({name: getattr(errors, name)() for name in BARE})
    return found


class Errors(unittest.TestCase):

    def test_base(self):
        self.assertEqual(errors.CurveError.__bases__, (ValueError,))
        self.assertEqual(errors.CurveError.__module__, "namedmoments.errors")
        self.assertIsInstance(errors.CurveError(), ValueError)

    def test_each_class_derives_from_the_base_alone(self):
        for name, error in made().items():
            with self.subTest(name):
                self.assertEqual(error.__class__.__bases__, (errors.CurveError,))
                self.assertEqual(error.__class__.__name__, name)
                self.assertEqual(error.__class__.__module__, "namedmoments.errors")
                self.assertIsInstance(error, errors.CurveError)
                self.assertIsInstance(error, ValueError)

    def test_no_class_is_another_one(self):
        found = made()
        self.assertEqual(len(found), 21)
        for name, error in found.items():
            for other in found:
                same = isinstance(error, getattr(errors, other))
                self.assertEqual(same, name == other, (name, other))

    def test_fields_hold_whatever_they_are_made_with(self):
        things = no_fractions() + [0, -1, 7, 1.5, {1, 2}, "curve", "ends", many_terms(), 10 ** 9000]
        for name, field in FIELDS.items():
            for thing in things:
                error = getattr(errors, name)(thing)
                self.assertIs(getattr(error, field), thing)

    def test_fields_stay_with_their_error(self):
        one = errors.Unknown("a")
        other = errors.Unknown("b")
        self.assertEqual((one.name, other.name), ("a", "b"))

    def test_raised_and_caught(self):
        for name, error in made().items():
            for caught in (getattr(errors, name), errors.CurveError, ValueError):
                with self.assertRaises(caught) as got:
                    raise error
                self.assertIs(got.exception, error)

    def test_made_with_just_their_fields(self):
        for name in FIELDS:
            with self.assertRaises(TypeError):
                getattr(errors, name)()
            with self.assertRaises(TypeError):
                getattr(errors, name)(1, 2)


if __name__ == "__main__":
    unittest.main()
