"""The interface of the document: each name stands in its file, with its arguments."""

import importlib
import inspect
import unittest

from namedmoments import errors

FUNCTIONS = {
    "curves": ["plus(one, other)", "times(one, other)", "scaled(curve, number)", "stretched(curve, number)", "slope(curve)",
               "area(curve)", "at_nought(curve)"],
    "texts": ["curve_text(curve)"],
    "reading": ["read_curve(text)"],
    "common": ["trimmed(curve)", "common(one, other)", "plain(curve)", "bare(curve)", "quotient(one, other)"],
    "apart": ["apart(one, other)", "is_apart(one, other, thing)"],
    "signs": ["e_between(number, many)", "sign_at(curve, number)", "far_sign(curve, side)", "order_at_nought(curve)"],
    "moments": ["at(number)", "finer(moment, many)", "compare(one, other)", "sign_then(curve, moment)", "fraction_of(moment)",
                "polynomial_of(moment)"],
    "noughts": ["noughts(curve)", "times_nought(curve, moment)", "most_noughts(curve)"],
    "orders": ["orders(curves)"],
    "sayings": ["is_saying(many, letters, thing)", "decided(curves, saying)", "when(curves, saying, letter)"],
    "flows": ["content(flow, vessel)", "passed(flow, pipe)", "fullest(flow, vessel)", "since_when(flow, one, other)"],
    "desk": ["desk_of(text)"],
}
CLASSES = {
    "curves": {"Curve(terms)": ["__eq__(other)"]},
    "moments": {"Moment(curve, low, high)": ["__eq__(other)"]},
    "rows": {"Row(curves)": ["__eq__(other)", "moments()", "signs(cell)", "cell_of(moment)"]},
    "flows": {"Flow(starts, pipes)": ["__eq__(other)"]},
    "desk": {"Desk()": ["put(name, curve)", "drop(name)", "undo()", "redo()", "names()", "kept(name)", "noughts_of(name)",
                        "first_from(name, number)", "crossings(one, other)", "tell(saying)", "copy()", "journal()"]},
}
ERRORS = ["BadCurve(index)", "BadText(index)", "BadMoment(part)", "BadFlow(part)", "BadLine(number)", "TooMany(most)", "Unknown(name)",
          "AllNought", "NoFraction", "NoNumber", "NoSide", "NoCurves", "NoCell", "NoLetters", "NoLetter", "NoSaying", "NoVessel",
          "NoPipe", "NoName", "NoCurve", "NothingDone"]


def written(name, function, own):
    """A name with the arguments of a function, less the object's own."""
    names = list(inspect.signature(function).parameters)
    return f"{name}({', '.join(names[1:] if own else names)})"


class Interface(unittest.TestCase):

    def test_functions(self):
        for file, functions in FUNCTIONS.items():
            module = importlib.import_module(f"namedmoments.{file}")
            for expected in functions:
                function = getattr(module, expected.partition("(")[0])
                self.assertEqual(function.__module__, module.__name__)
                self.assertEqual(written(function.__name__, function, False), expected)

    def test_classes(self):
        for file, classes in CLASSES.items():
            module = importlib.import_module(f"namedmoments.{file}")
            for expected, methods in classes.items():
                found = getattr(module, expected.partition("(")[0])
                self.assertEqual(found.__module__, module.__name__)
                self.assertEqual(written(found.__name__, found.__init__, True), expected)
                for method in methods:
                    name = method.partition("(")[0]
                    self.assertIn(name, vars(found))
                    self.assertEqual(written(name, vars(found)[name], True), method)

    def test_errors(self):
        for expected in ERRORS:
            found = getattr(errors, expected.partition("(")[0])
            self.assertEqual(found.__bases__, (errors.CurveError,))
            if "(" in expected:
                self.assertEqual(written(found.__name__, found.__init__, True), expected)


if __name__ == "__main__":
    unittest.main()
